/- Joined: NormRow, SortLib. -/
import Derived.Test.YtcghclikkeajfaaGreatMf
import Derived.Test.YtcghclikkeajfaaGreatMv
import Derived.Test.YtcghclikkeajfaaGreatMe
import Derived.Maps.AppendAt
import Derived.Test.YtcghclikkeajfaaGreatProg
import Derived.Shelf.Sort.Plain
import Derived.Shelf.Slices.Clone
import Derived.Sort.OwnSortedInts
/- Numbers of nodes in a row of the call's own, beside the arena; how long they are. -/
namespace Go.Proofs.YtcghclikkeajfaaGreat
open Go.RowKit
set_option linter.unusedSimpArgs false
set_option linter.unusedVariables false

def idL (l : List Int) : List Value := l.map (fun x => Value.int .i64 x)
def IdRow (w : World) (base : Nat) (v : Value) (l : List Int) : Prop := w.ownsRow base 3 1 v l.length (idL l)
theorem info_intR : (Tryz.prog.info? 3).map (fun i => (i.zero, i.size, i.bytes)) = some (some (.int .i64 0), 1, 8) := by kernel_rfl
theorem IdRow.off {w w' : World} {base : Nat} {v : Value} {l : List Int} {F : Nat → Prop} (h : IdRow w base v l) (ho : OffF F w w') (hn : ∀ b, F b → v.ownBlock ≠ some b) : IdRow w' base v l := by
  obtain ⟨h1, h2⟩ := id h
  refine ⟨h1, ?_⟩
  rcases h2 with ⟨e, q⟩ | ⟨g, cap, cur, e, hb, hc, r⟩
  · exact Or.inl ⟨e, q⟩
  · refine Or.inr ⟨g, cap, cur, e, hb, ?_, r⟩
    have hlt := (World.ownsRow.lt h g (by rw [e]; rfl)).2
    exact (ho.block g hlt (fun q => hn g q (by rw [e]; rfl))).trans hc
theorem IdRow.made (w : World) (base : Nat) (hb : base ≤ w.heap.size) (x y z : Int) : IdRow (w.alloc (.cells #[.int .i64 x, .int .i64 y, .int .i64 z] 3)) base (.slice (some ⟨w.heap.size, 0, none⟩) 3 3) [x, y, z] :=
  ⟨rfl, .inr ⟨w.heap.size, 3, #[.int .i64 x, .int .i64 y, .int .i64 z], rfl, hb, At.new _ _ _, Nat.le_refl _, by unfold maxLen; omega, rfl, rfl⟩⟩
theorem IdRow.form {w : World} {base : Nat} {v : Value} {l : List Int} (h : IdRow w base v l) (h0 : 0 < l.length) : ∃ g cap, v = .slice (some ⟨g, 0, none⟩) l.length cap ∧ (∀ (j : Nat) (hj : j < l.length), w.cell? ⟨g, j, none⟩ = some (.int .i64 l[j])) := by
  obtain ⟨g, cap, rfl, _, _⟩ := World.ownsRow.form h h0
  refine ⟨g, cap, rfl, fun j hj => ?_⟩
  rw [World.ownsRow.cellAt h j (by omega)]
  unfold idL
  rw [List.getElem?_map, List.getElem?_eq_getElem hj]
  rfl
section
variable {AA : World → Value → List Nd → (Nat → Prop) → Prop}
structure Rnd (AA : World → Value → List Nd → (Nat → Prop) → Prop) (w0 w : World) (a : Value) (ns : List Nd) (F : Nat → Prop) (v : Value) (ids : List Int) : Prop where
  aa : AA w a ns F
  canon : Canon ns
  row : IdRow w w0.heap.size v ids
  apart : ∀ b, F b → v.ownBlock ≠ some b
  own : ∀ b, F b → w0.heap.size ≤ b
  below : Below w0.heap.size w0 w
variable (S : ArenaBig AA) {w0 w w' : World} {a v : Value} {ns ns' : List Nd} {F : Nat → Prop} {ids : List Int} {m : Nat}
theorem Rnd.op (h : Rnd AA w0 w a ns F v ids) (hs : LSt AA w w' a ns F m ns') : ∃ F', Rnd AA w0 w' a ns' F' v ids ∧ ns'.length ≤ ns.length + m := by
  obtain ⟨F', h1, h2, h3⟩ := hs.ex
  refine ⟨F', ⟨h1, hs.canon, h.row.off h3 h.apart, fun b q => ?_, fun b q => ?_, h.below.trans (h3.below h.own h.below.size)⟩, hs.few⟩
  · rcases h2 b q with q | q
    · exact h.apart b q
    · intro e
      have := (World.ownsRow.lt h.row b e).2
      omega
  · rcases h2 b q with q | q
    · exact h.own b q
    · exact Nat.le_trans h.below.size q
include S in
theorem Rnd.alloc (h : Rnd AA w0 w a ns F v ids) (o : Obj) : Rnd AA w0 (w.alloc o) a ns F v ids :=
  ⟨S.next h.aa ((Below.refl _ _).alloc (Nat.le_refl _) o), h.canon, World.ownsRow.alloc h.row o, h.apart, h.own, h.below.alloc h.below.size o⟩
include S in
theorem Rnd.drewN (h : Rnd AA w0 w a ns F v ids) (q : Nat) : Rnd AA w0 (w.drewN q) a ns F v ids :=
  ⟨S.keep h.aa (fun _ _ => rfl), h.canon, h.row, h.apart, h.own, below_drewN' h.below q⟩
end
/- How long. -/
def LenW (ns : List Nd) (W4 W5 W3 : Nat) (x : Int) : Prop := LenB ns W4 W5 W3 x ∧ (kd ns x = 6 → LenB ns W4 W5 W3 (ka ns x))
section
variable {ns : List Nd} {W4 W5 W3 : Nat} {x y r : Int}
theorem LenW.upTo {ns' : List Nd} (hf : FineN ns) (h : LenW ns W4 W5 W3 x) (hu : Up ns ns') : LenW ns' W4 W5 W3 x :=
  ⟨h.1.up hf hu, fun k => by
    rw [kd_upTo h.1.1 hu] at k
    obtain ⟨more, rfl⟩ := hu
    rw [ka_up h.1.1]
    exact (h.2 k).up hf ⟨more, rfl⟩⟩
theorem LenW.mono {V4 V5 V3 : Nat} (h : LenW ns W4 W5 W3 x) (h4 : W4 ≤ V4) (h5 : W5 ≤ V5) (h3 : W3 ≤ V3) : LenW ns V4 V5 V3 x := ⟨h.1.mono h4 h5 h3, fun k => (h.2 k).mono h4 h5 h3⟩
end
end Go.Proofs.YtcghclikkeajfaaGreat

/- slices.Sort and slices.Clone of whole numbers, each one application of the shelf's contract; rows of the call's own. -/
namespace Go.Proofs.YtcghclikkeajfaaGreat
open Go.Shelf
def lib_lays189_ren : Go.Shelf.Ren := ⟨fun | 189 => 66 | 125 => 84 | 257 => 83 | 128 => 100 | 129 => 101 | 294 => 91 | 295 => 92 | 296 => 93 | 297 => 94 | 298 => 95 | 299 => 96 | 216 => 97 | 300 => 98 | 301 => 99 | 328 => 105 | 329 => 106 | 330 => 107 | 331 => 108 | 332 => 109 | 215 => 110 | 343 => 112 | n => n, fun | 28 => 58 | 3 => 3 | 46 => 70 | 0 => 0 | 51 => 139 | 53 => 22 | 4 => 4 | 183 => 133 | 182 => 132 | 131 => 114 | 5 => 5 | 9 => 9 | 218 => 146 | 222 => 150 | 228 => 153 | 229 => 154 | n => n, fun | n => n⟩
theorem lib_lays189 : Go.Proofs.Lays.n189 Tryz.prog lib_lays189_ren := {
  mixed := by kernel_rfl
  f125 := Tryz.func84.trans (congrArg some (by kernel_rfl))
  f128 := Tryz.func100.trans (congrArg some (by kernel_rfl))
  f129 := Tryz.func101.trans (congrArg some (by kernel_rfl))
  f189 := Tryz.func66.trans (congrArg some (by kernel_rfl))
  f215 := Tryz.func110.trans (congrArg some (by kernel_rfl))
  f216 := Tryz.func97.trans (congrArg some (by kernel_rfl))
  f257 := Tryz.func83.trans (congrArg some (by kernel_rfl))
  f294 := Tryz.func91.trans (congrArg some (by kernel_rfl))
  f295 := Tryz.func92.trans (congrArg some (by kernel_rfl))
  f296 := Tryz.func93.trans (congrArg some (by kernel_rfl))
  f297 := Tryz.func94.trans (congrArg some (by kernel_rfl))
  f298 := Tryz.func95.trans (congrArg some (by kernel_rfl))
  f299 := Tryz.func96.trans (congrArg some (by kernel_rfl))
  f300 := Tryz.func98.trans (congrArg some (by kernel_rfl))
  f301 := Tryz.func99.trans (congrArg some (by kernel_rfl))
  f328 := Tryz.func105.trans (congrArg some (by kernel_rfl))
  f329 := Tryz.func106.trans (congrArg some (by kernel_rfl))
  f330 := Tryz.func107.trans (congrArg some (by kernel_rfl))
  f331 := Tryz.func108.trans (congrArg some (by kernel_rfl))
  f332 := Tryz.func109.trans (congrArg some (by kernel_rfl))
  f343 := Tryz.func112.trans (congrArg some (by kernel_rfl))
  t0 := Tryz.underlying0
  a0 := Tryz.isAgg0
  z0 := Tryz.sizeOf0
  v0 := Tryz.zeroValue0
  t3 := Tryz.underlying3
  a3 := Tryz.isAgg3
  z3 := Tryz.sizeOf3
  v3 := Tryz.zeroValue3
  t4 := Tryz.underlying4
  a4 := Tryz.isAgg4
  z4 := Tryz.sizeOf4
  v4 := Tryz.zeroValue4
  t5 := Tryz.underlying5
  a5 := Tryz.isAgg5
  z5 := Tryz.sizeOf5
  v5 := Tryz.zeroValue5
  t9 := Tryz.underlying9
  a9 := Tryz.isAgg9
  z9 := Tryz.sizeOf9
  v9 := Tryz.zeroValue9
  t28 := Tryz.underlying58
  a28 := Tryz.isAgg58
  z28 := Tryz.sizeOf58
  v28 := Tryz.zeroValue58
  t46 := Tryz.underlying70
  a46 := Tryz.isAgg70
  z46 := Tryz.sizeOf70
  v46 := Tryz.zeroValue70
  t51 := Tryz.underlying139
  a51 := Tryz.isAgg139
  z51 := Tryz.sizeOf139
  v51 := Tryz.zeroValue139
  t53 := Tryz.underlying22
  a53 := Tryz.isAgg22
  z53 := Tryz.sizeOf22
  v53 := Tryz.zeroValue22
  t131 := Tryz.underlying114
  a131 := Tryz.isAgg114
  z131 := Tryz.sizeOf114
  v131 := Tryz.zeroValue114
  t182 := Tryz.underlying132
  a182 := Tryz.isAgg132
  z182 := Tryz.sizeOf132
  v182 := Tryz.zeroValue132
  t183 := Tryz.underlying133
  a183 := Tryz.isAgg133
  z183 := Tryz.sizeOf133
  v183 := Tryz.zeroValue133
  t218 := Tryz.underlying146
  a218 := Tryz.isAgg146
  z218 := Tryz.sizeOf146
  v218 := Tryz.zeroValue146
  t222 := Tryz.underlying150
  a222 := Tryz.isAgg150
  z222 := Tryz.sizeOf150
  v222 := Tryz.zeroValue150
  t228 := Tryz.underlying153
  a228 := Tryz.isAgg153
  z228 := Tryz.sizeOf153
  v228 := Tryz.zeroValue153
  t229 := Tryz.underlying154
  a229 := Tryz.isAgg154
  z229 := Tryz.sizeOf154
  v229 := Tryz.zeroValue154 }
open Go.Sort Go.RowKit in
theorem lib_slices_Sort_int (blk off cap : Nat) (zs : List Int) (w : World) (hH : Holds (Value.int .i64) w blk off zs.toArray) (hblk : blk < w.heap.size) (hsz : zs.length < 4611686018427387904) :
    Calls Tryz.prog 66 #[.slice (some ⟨blk, off, none⟩) zs.length cap] w fun e w' =>
      e = .returned (.tuple #[]) ∧ ∃ n os, w' = grow (putRow (Value.int .i64) (Sort.ahead w n) blk off (zs.mergeSort fun x y => decide (x ≤ y)).toArray) os := Any.slices_Sort_int lib_lays189 blk off cap zs w hH hblk hsz
def lib_laysNm215_ren : Go.Shelf.Ren := ⟨fun | 15 => 63 | n => n, fun | 22 => 58 | 3 => 3 | 4 => 4 | n => n, fun | n => n⟩
theorem lib_laysNm215 : Go.Proofs.Lays2.n15 Tryz.prog lib_laysNm215_ren := {
  mixed := by kernel_rfl
  f15 := Tryz.func63.trans (congrArg some (by kernel_rfl))
  t3 := Tryz.underlying3
  a3 := Tryz.isAgg3
  z3 := Tryz.sizeOf3
  v3 := Tryz.zeroValue3
  t4 := Tryz.underlying4
  a4 := Tryz.isAgg4
  z4 := Tryz.sizeOf4
  v4 := Tryz.zeroValue4
  t22 := Tryz.underlying58
  a22 := Tryz.isAgg58
  z22 := Tryz.sizeOf58
  v22 := Tryz.zeroValue58
  i3 := by kernel_rfl }
open Go.RowKit Go.Lib in
theorem lib_slices_Clone_int (b off n c : Nat) (zs : List Int) (w : World) (hz : n ≤ zs.length) (hbig : n * 8 ≤ 140737488355328) (hc : ∀ j, j < zs.length → w.cell? ⟨b, off + j, none⟩ = some (.int .i64 (zs.getD j 0))) :
    Calls Tryz.prog 63 #[.slice (some ⟨b, off, none⟩) n c] w fun e w' => ∃ v', e = .returned v' ∧ w'.ownsRow w.heap.size 3 1 v' n ((zs.take n).map (Value.int .i64)) ∧ v' ≠ .slice none 0 0 ∧ Below w.heap.size w w' := Any.slices_Clone_int lib_laysNm215 b off n c zs w hz hbig hc
open Go.RowKit Go.Lib in
theorem lib_slices_Clone_int_nil (n c : Nat) (w : World) :
    Calls Tryz.prog 63 #[.slice none n c] w fun e w' => e = .returned (.slice none 0 0) ∧ w' = w := Any.slices_Clone_int_nil lib_laysNm215 n c w
open Go.RowKit Go.Lib in
theorem lib_slices_Clone_int_zero (a : Addr) (c : Nat) (w : World) :
    Calls Tryz.prog 63 #[.slice (some a) 0 c] w fun e w' => ∃ v', e = .returned v' ∧ w'.ownsRow w.heap.size 3 1 v' 0 [] ∧ v' ≠ .slice none 0 0 ∧ Below w.heap.size w w' := Any.slices_Clone_int_zero lib_laysNm215 a c w

open Go.RowKit
theorem IdRow.nil (w : World) (base : Nat) : IdRow w base (.slice none 0 0) [] := World.ownsRow_nil _ _ _ _
theorem IdRow.base {w : World} {b b' : Nat} {v : Value} {l : List Int} (h : IdRow w b v l) (hb : b' ≤ b) : IdRow w b' v l := by
  obtain ⟨h1, h2⟩ := h
  refine ⟨h1, ?_⟩
  rcases h2 with hn | ⟨g, cap, cur, hv, hbg, rest⟩
  · exact .inl hn
  · exact .inr ⟨g, cap, cur, hv, Nat.le_trans hb hbg, rest⟩
theorem IdRow.next {w w' : World} {b : Nat} {v : Value} {l : List Int} (h : IdRow w b v l) (hb : Below w.heap.size w w') : IdRow w' b v l := by
  obtain ⟨h1, h2⟩ := id h
  refine ⟨h1, ?_⟩
  rcases h2 with hn | ⟨g, cap, cur, hv, hbg, hc, rest⟩
  · exact .inl hn
  · refine .inr ⟨g, cap, cur, hv, hbg, ?_, rest⟩
    exact (hb.block g (World.ownsRow.lt h g (by rw [hv]; rfl)).2).trans hc
theorem IdRow.grown {w w' : World} {b : Nat} {v : Value} {l : List Int} {row : Option Nat} (h : IdRow w b v l) (hg : w.grownBy w' row) (hr : ∀ c, row = some c → v.ownBlock ≠ some c) : IdRow w' b v l := by
  obtain ⟨h1, h2⟩ := id h
  refine ⟨h1, ?_⟩
  rcases h2 with hn | ⟨g, cap, cur, hv, hbg, hc, rest⟩
  · exact .inl hn
  · refine .inr ⟨g, cap, cur, hv, hbg, ?_, rest⟩
    exact (hg.block g (World.ownsRow.lt h g (by rw [hv]; rfl)).2 (fun e => hr g e.symm (by rw [hv]; rfl))).trans hc
theorem IdRow.lt {w : World} {b : Nat} {v : Value} {l : List Int} (h : IdRow w b v l) {c : Nat} (e : v.ownBlock = some c) : b ≤ c ∧ c < w.heap.size := World.ownsRow.lt h c e
theorem IdRow.len {w : World} {b : Nat} {v : Value} {l : List Int} (h : IdRow w b v l) : ∃ A c, v = .slice A l.length c := by
  obtain ⟨h1, h2⟩ := h
  rcases h2 with ⟨hn, h0⟩ | ⟨g, cap, cur, hv, _⟩
  · exact ⟨none, 0, by rw [hn, h0]⟩
  · exact ⟨_, _, hv⟩
theorem IdRow.list {w : World} {b : Nat} {v : Value} {l : List Int} (h : IdRow w b v l) : ListAt w v l := by
  obtain ⟨A, c, e⟩ := h.len
  refine ⟨A, c, e, fun h0 => ?_⟩
  obtain ⟨g, cap, hv, hc⟩ := h.form h0
  rw [e] at hv
  injection hv with hv _ _
  refine ⟨g, 0, hv, (h.lt (by rw [e, hv]; rfl)).2, fun j hj => ?_⟩
  rw [Nat.zero_add]
  exact hc j hj
/-- Without its last one. -/
theorem IdRow.init {w : World} {b g p cap : Nat} {l : List Int} {x : Int} (h : IdRow w b (.slice (some ⟨g, 0, none⟩) (p + 1) cap) (l ++ [x])) (hp : l.length = p) : IdRow w b (.slice (some ⟨g, 0, none⟩) p cap) l := by
  obtain ⟨h1, h2⟩ := h
  refine ⟨?_, ?_⟩
  · unfold idL; simp
  · rcases h2 with ⟨hn, _⟩ | ⟨g', cap', cur, hv, hbg, hc, r1, r2, r3, r4⟩
    · cases hn
    · refine .inr ⟨g', cap', cur, ?_, hbg, hc, ?_, r2, r3, ?_⟩
      · injection hv with e1 e2 e3
        rw [e1, e3, hp]
      · rw [List.length_append] at r1; simp at r1; omega
      · rw [List.length_append] at r4
        simp at r4
        have := congrArg (List.take (l.length)) r4
        rw [List.take_take] at this
        rw [show min l.length (l.length + 1) = l.length by omega] at this
        rw [Nat.mul_one, this]
        unfold idL
        rw [List.map_append, List.take_left' (by simp)]
theorem IdRow.cap {w : World} {b g p cap : Nat} {l : List Int} (h : IdRow w b (.slice (some ⟨g, 0, none⟩) p cap) l) : p ≤ cap := by
  obtain ⟨h1, h2⟩ := h
  rcases h2 with ⟨hn, _⟩ | ⟨g', cap', cur, hv, hbg, hc, r1, r2, r3, r4⟩
  · cases hn
  · injection hv with e1 e2 e3
    rw [e2, e3]; exact r1
def lenV : Value → Nat
  | .slice _ n _ => n
  | _ => 0
theorem nClone {w : World} {v : Value} {l : List Int} (hv : ListAt w v l) (hl : l.length ≤ 1000000) : Calls Tryz.prog 63 #[v] w fun e w' => ∃ v', e = .returned v' ∧ IdRow w' w.heap.size v' l ∧ Below w.heap.size w w' := by
  obtain ⟨A, c, rfl, h⟩ := hv
  by_cases h0 : 0 < l.length
  · obtain ⟨b, off, rfl, hlt, hc⟩ := h h0
    refine (lib_slices_Clone_int b off l.length c l w (Nat.le_refl _) (by omega) (fun j hj => by rw [hc j hj]; simp [List.getD, List.getElem?_eq_getElem hj])).mono ?_
    rintro e w' ⟨v', rfl, h1, _, h2⟩
    exact ⟨v', rfl, by rw [List.take_length] at h1; exact h1, h2⟩
  · obtain rfl : l = [] := List.eq_nil_of_length_eq_zero (by omega)
    cases A with
    | none =>
      refine (lib_slices_Clone_int_nil 0 c w).mono ?_
      rintro e w' ⟨rfl, rfl⟩
      exact ⟨_, rfl, IdRow.nil _ _, Below.refl _ _⟩
    | some a =>
      refine (lib_slices_Clone_int_zero a c w).mono ?_
      rintro e w' ⟨v', rfl, h1, _, h2⟩
      exact ⟨v', rfl, h1, h2⟩
/-- Behind the sort the same slice has the same numbers, by their order. -/
theorem nSort {w : World} {b : Nat} {v : Value} {l : List Int} (h : IdRow w b v l) (h0 : 0 < l.length) (hl : l.length ≤ 1000000) : Calls Tryz.prog 66 #[v] w fun e w' => e = .returned (.tuple #[]) ∧ IdRow w' b v (l.mergeSort fun x y => decide (x ≤ y)) ∧ w.grownBy w' v.ownBlock := by
  obtain ⟨h1, h2⟩ := id h
  rcases h2 with ⟨_, hn⟩ | ⟨g, cap, cur, rfl, hbg, hc, r1, r2, r3, r4⟩
  · omega
  · rw [Nat.mul_one] at r4
    have hg : g < w.heap.size := (Array.getElem?_eq_some_iff.1 hc).1
    refine (lib_slices_Sort_int g 0 cap l w (holds_of_blockI hc r4) hg (by omega)).mono ?_
    rintro e w' ⟨rfl, n, os, rfl⟩
    refine ⟨rfl, ?_, grownBy_sortedI _⟩
    have := ownsRow_sortedI (n := n) (os := os) (base := b) (ss := l) (ts := l.mergeSort fun x y => decide (x ≤ y)) (by simp) hbg hc r1 r2 r3
    unfold IdRow
    rw [show (l.mergeSort fun x y => decide (x ≤ y)).length = l.length by simp]
    exact this

end Go.Proofs.YtcghclikkeajfaaGreat
