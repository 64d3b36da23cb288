/- slices.Sort and slices.Clone of whole numbers, each one application of the shelf's contract; rows of the call's own. -/
import Derived.Test.YtcghclikkeajfaaProg
import Derived.Test.YtcghclikkeajfaaNormRow
import Derived.Shelf.Sort.Plain
import Derived.Shelf.Slices.Clone
import Derived.Sort.OwnSortedInts
namespace Go.Proofs.Ytcghclikkeajfaa
open Go.Shelf
def lib_lays189_ren : Go.Shelf.Ren := ⟨fun | 189 => 49 | 125 => 56 | 257 => 55 | 128 => 68 | 129 => 69 | 294 => 59 | 295 => 60 | 296 => 61 | 297 => 62 | 298 => 63 | 299 => 64 | 216 => 65 | 300 => 66 | 301 => 67 | 328 => 70 | 329 => 71 | 330 => 72 | 331 => 73 | 332 => 74 | 215 => 75 | 343 => 76 | n => n, fun | 28 => 28 | 3 => 3 | 46 => 81 | 0 => 0 | 51 => 112 | 53 => 30 | 4 => 4 | 183 => 106 | 182 => 105 | 131 => 93 | 5 => 5 | 9 => 9 | 218 => 113 | 222 => 117 | 228 => 119 | 229 => 120 | n => n, fun | n => n⟩
theorem lib_lays189 : Go.Proofs.Lays.n189 Try.prog lib_lays189_ren := {
  mixed := by kernel_rfl
  f125 := Try.func56.trans (congrArg some (by kernel_rfl))
  f128 := Try.func68.trans (congrArg some (by kernel_rfl))
  f129 := Try.func69.trans (congrArg some (by kernel_rfl))
  f189 := Try.func49.trans (congrArg some (by kernel_rfl))
  f215 := Try.func75.trans (congrArg some (by kernel_rfl))
  f216 := Try.func65.trans (congrArg some (by kernel_rfl))
  f257 := Try.func55.trans (congrArg some (by kernel_rfl))
  f294 := Try.func59.trans (congrArg some (by kernel_rfl))
  f295 := Try.func60.trans (congrArg some (by kernel_rfl))
  f296 := Try.func61.trans (congrArg some (by kernel_rfl))
  f297 := Try.func62.trans (congrArg some (by kernel_rfl))
  f298 := Try.func63.trans (congrArg some (by kernel_rfl))
  f299 := Try.func64.trans (congrArg some (by kernel_rfl))
  f300 := Try.func66.trans (congrArg some (by kernel_rfl))
  f301 := Try.func67.trans (congrArg some (by kernel_rfl))
  f328 := Try.func70.trans (congrArg some (by kernel_rfl))
  f329 := Try.func71.trans (congrArg some (by kernel_rfl))
  f330 := Try.func72.trans (congrArg some (by kernel_rfl))
  f331 := Try.func73.trans (congrArg some (by kernel_rfl))
  f332 := Try.func74.trans (congrArg some (by kernel_rfl))
  f343 := Try.func76.trans (congrArg some (by kernel_rfl))
  t0 := Try.underlying0
  a0 := Try.isAgg0
  z0 := Try.sizeOf0
  v0 := Try.zeroValue0
  t3 := Try.underlying3
  a3 := Try.isAgg3
  z3 := Try.sizeOf3
  v3 := Try.zeroValue3
  t4 := Try.underlying4
  a4 := Try.isAgg4
  z4 := Try.sizeOf4
  v4 := Try.zeroValue4
  t5 := Try.underlying5
  a5 := Try.isAgg5
  z5 := Try.sizeOf5
  v5 := Try.zeroValue5
  t9 := Try.underlying9
  a9 := Try.isAgg9
  z9 := Try.sizeOf9
  v9 := Try.zeroValue9
  t28 := Try.underlying28
  a28 := Try.isAgg28
  z28 := Try.sizeOf28
  v28 := Try.zeroValue28
  t46 := Try.underlying81
  a46 := Try.isAgg81
  z46 := Try.sizeOf81
  v46 := Try.zeroValue81
  t51 := Try.underlying112
  a51 := Try.isAgg112
  z51 := Try.sizeOf112
  v51 := Try.zeroValue112
  t53 := Try.underlying30
  a53 := Try.isAgg30
  z53 := Try.sizeOf30
  v53 := Try.zeroValue30
  t131 := Try.underlying93
  a131 := Try.isAgg93
  z131 := Try.sizeOf93
  v131 := Try.zeroValue93
  t182 := Try.underlying105
  a182 := Try.isAgg105
  z182 := Try.sizeOf105
  v182 := Try.zeroValue105
  t183 := Try.underlying106
  a183 := Try.isAgg106
  z183 := Try.sizeOf106
  v183 := Try.zeroValue106
  t218 := Try.underlying113
  a218 := Try.isAgg113
  z218 := Try.sizeOf113
  v218 := Try.zeroValue113
  t222 := Try.underlying117
  a222 := Try.isAgg117
  z222 := Try.sizeOf117
  v222 := Try.zeroValue117
  t228 := Try.underlying119
  a228 := Try.isAgg119
  z228 := Try.sizeOf119
  v228 := Try.zeroValue119
  t229 := Try.underlying120
  a229 := Try.isAgg120
  z229 := Try.sizeOf120
  v229 := Try.zeroValue120 }
open Go.Sort Go.RowKit in
theorem lib_slices_Sort_int (blk off cap : Nat) (zs : List Int) (w : World) (hH : Holds (Value.int .i64) w blk off zs.toArray) (hblk : blk < w.heap.size) (hsz : zs.length < 4611686018427387904) :
    Calls Try.prog 49 #[.slice (some ⟨blk, off, none⟩) zs.length cap] w fun e w' =>
      e = .returned (.tuple #[]) ∧ ∃ n os, w' = grow (putRow (Value.int .i64) (Sort.ahead w n) blk off (zs.mergeSort fun x y => decide (x ≤ y)).toArray) os := Any.slices_Sort_int lib_lays189 blk off cap zs w hH hblk hsz
def lib_laysNm215_ren : Go.Shelf.Ren := ⟨fun | 15 => 47 | n => n, fun | 22 => 28 | 3 => 3 | 4 => 4 | n => n, fun | n => n⟩
theorem lib_laysNm215 : Go.Proofs.Lays2.n15 Try.prog lib_laysNm215_ren := {
  mixed := by kernel_rfl
  f15 := Try.func47.trans (congrArg some (by kernel_rfl))
  t3 := Try.underlying3
  a3 := Try.isAgg3
  z3 := Try.sizeOf3
  v3 := Try.zeroValue3
  t4 := Try.underlying4
  a4 := Try.isAgg4
  z4 := Try.sizeOf4
  v4 := Try.zeroValue4
  t22 := Try.underlying28
  a22 := Try.isAgg28
  z22 := Try.sizeOf28
  v22 := Try.zeroValue28
  i3 := by kernel_rfl }
open Go.RowKit Go.Lib in
theorem lib_slices_Clone_int (b off n c : Nat) (zs : List Int) (w : World) (hz : n ≤ zs.length) (hbig : n * 8 ≤ 140737488355328) (hc : ∀ j, j < zs.length → w.cell? ⟨b, off + j, none⟩ = some (.int .i64 (zs.getD j 0))) :
    Calls Try.prog 47 #[.slice (some ⟨b, off, none⟩) n c] w fun e w' => ∃ v', e = .returned v' ∧ w'.ownsRow w.heap.size 3 1 v' n ((zs.take n).map (Value.int .i64)) ∧ v' ≠ .slice none 0 0 ∧ Below w.heap.size w w' := Any.slices_Clone_int lib_laysNm215 b off n c zs w hz hbig hc
open Go.RowKit Go.Lib in
theorem lib_slices_Clone_int_nil (n c : Nat) (w : World) :
    Calls Try.prog 47 #[.slice none n c] w fun e w' => e = .returned (.slice none 0 0) ∧ w' = w := Any.slices_Clone_int_nil lib_laysNm215 n c w
open Go.RowKit Go.Lib in
theorem lib_slices_Clone_int_zero (a : Addr) (c : Nat) (w : World) :
    Calls Try.prog 47 #[.slice (some a) 0 c] w fun e w' => ∃ v', e = .returned v' ∧ w'.ownsRow w.heap.size 3 1 v' 0 [] ∧ v' ≠ .slice none 0 0 ∧ Below w.heap.size w w' := Any.slices_Clone_int_zero lib_laysNm215 a c w

open Go.RowKit
theorem IdRow.nil (w : World) (base : Nat) : IdRow w base (.slice none 0 0) [] := World.ownsRow_nil _ _ _ _
theorem IdRow.base {w : World} {b b' : Nat} {v : Value} {l : List Int} (h : IdRow w b v l) (hb : b' ≤ b) : IdRow w b' v l := by
  obtain ⟨h1, h2⟩ := h
  refine ⟨h1, ?_⟩
  rcases h2 with hn | ⟨g, cap, cur, hv, hbg, rest⟩
  · exact .inl hn
  · exact .inr ⟨g, cap, cur, hv, Nat.le_trans hb hbg, rest⟩
theorem IdRow.next {w w' : World} {b : Nat} {v : Value} {l : List Int} (h : IdRow w b v l) (hb : Below w.heap.size w w') : IdRow w' b v l := by
  obtain ⟨h1, h2⟩ := id h
  refine ⟨h1, ?_⟩
  rcases h2 with hn | ⟨g, cap, cur, hv, hbg, hc, rest⟩
  · exact .inl hn
  · refine .inr ⟨g, cap, cur, hv, hbg, ?_, rest⟩
    exact (hb.block g (World.ownsRow.lt h g (by rw [hv]; rfl)).2).trans hc
theorem IdRow.grown {w w' : World} {b : Nat} {v : Value} {l : List Int} {row : Option Nat} (h : IdRow w b v l) (hg : w.grownBy w' row) (hr : ∀ c, row = some c → v.ownBlock ≠ some c) : IdRow w' b v l := by
  obtain ⟨h1, h2⟩ := id h
  refine ⟨h1, ?_⟩
  rcases h2 with hn | ⟨g, cap, cur, hv, hbg, hc, rest⟩
  · exact .inl hn
  · refine .inr ⟨g, cap, cur, hv, hbg, ?_, rest⟩
    exact (hg.block g (World.ownsRow.lt h g (by rw [hv]; rfl)).2 (fun e => hr g e.symm (by rw [hv]; rfl))).trans hc
theorem IdRow.lt {w : World} {b : Nat} {v : Value} {l : List Int} (h : IdRow w b v l) {c : Nat} (e : v.ownBlock = some c) : b ≤ c ∧ c < w.heap.size := World.ownsRow.lt h c e
theorem IdRow.len {w : World} {b : Nat} {v : Value} {l : List Int} (h : IdRow w b v l) : ∃ A c, v = .slice A l.length c := by
  obtain ⟨h1, h2⟩ := h
  rcases h2 with ⟨hn, h0⟩ | ⟨g, cap, cur, hv, _⟩
  · exact ⟨none, 0, by rw [hn, h0]⟩
  · exact ⟨_, _, hv⟩
theorem IdRow.list {w : World} {b : Nat} {v : Value} {l : List Int} (h : IdRow w b v l) : ListAt w v l := by
  obtain ⟨A, c, e⟩ := h.len
  refine ⟨A, c, e, fun h0 => ?_⟩
  obtain ⟨g, cap, hv, hc⟩ := h.form h0
  rw [e] at hv
  injection hv with hv _ _
  refine ⟨g, 0, hv, (h.lt (by rw [e, hv]; rfl)).2, fun j hj => ?_⟩
  rw [Nat.zero_add]
  exact hc j hj
/-- Without its last one. -/
theorem IdRow.init {w : World} {b g p cap : Nat} {l : List Int} {x : Int} (h : IdRow w b (.slice (some ⟨g, 0, none⟩) (p + 1) cap) (l ++ [x])) (hp : l.length = p) : IdRow w b (.slice (some ⟨g, 0, none⟩) p cap) l := by
  obtain ⟨h1, h2⟩ := h
  refine ⟨?_, ?_⟩
  · unfold idL; simp
  · rcases h2 with ⟨hn, _⟩ | ⟨g', cap', cur, hv, hbg, hc, r1, r2, r3, r4⟩
    · cases hn
    · refine .inr ⟨g', cap', cur, ?_, hbg, hc, ?_, r2, r3, ?_⟩
      · injection hv with e1 e2 e3
        rw [e1, e3, hp]
      · rw [List.length_append] at r1; simp at r1; omega
      · rw [List.length_append] at r4
        simp at r4
        have := congrArg (List.take (l.length)) r4
        rw [List.take_take] at this
        rw [show min l.length (l.length + 1) = l.length by omega] at this
        rw [Nat.mul_one, this]
        unfold idL
        rw [List.map_append, List.take_left' (by simp)]
theorem IdRow.cap {w : World} {b g p cap : Nat} {l : List Int} (h : IdRow w b (.slice (some ⟨g, 0, none⟩) p cap) l) : p ≤ cap := by
  obtain ⟨h1, h2⟩ := h
  rcases h2 with ⟨hn, _⟩ | ⟨g', cap', cur, hv, hbg, hc, r1, r2, r3, r4⟩
  · cases hn
  · injection hv with e1 e2 e3
    rw [e2, e3]; exact r1
def lenV : Value → Nat
  | .slice _ n _ => n
  | _ => 0
theorem nClone {w : World} {v : Value} {l : List Int} (hv : ListAt w v l) (hl : l.length ≤ 1000000) : Calls Try.prog 47 #[v] w fun e w' => ∃ v', e = .returned v' ∧ IdRow w' w.heap.size v' l ∧ Below w.heap.size w w' := by
  obtain ⟨A, c, rfl, h⟩ := hv
  by_cases h0 : 0 < l.length
  · obtain ⟨b, off, rfl, hlt, hc⟩ := h h0
    refine (lib_slices_Clone_int b off l.length c l w (Nat.le_refl _) (by omega) (fun j hj => by rw [hc j hj]; simp [List.getD, List.getElem?_eq_getElem hj])).mono ?_
    rintro e w' ⟨v', rfl, h1, _, h2⟩
    exact ⟨v', rfl, by rw [List.take_length] at h1; exact h1, h2⟩
  · obtain rfl : l = [] := List.eq_nil_of_length_eq_zero (by omega)
    cases A with
    | none =>
      refine (lib_slices_Clone_int_nil 0 c w).mono ?_
      rintro e w' ⟨rfl, rfl⟩
      exact ⟨_, rfl, IdRow.nil _ _, Below.refl _ _⟩
    | some a =>
      refine (lib_slices_Clone_int_zero a c w).mono ?_
      rintro e w' ⟨v', rfl, h1, _, h2⟩
      exact ⟨v', rfl, h1, h2⟩
/-- Behind the sort the same slice has the same numbers, by their order. -/
theorem nSort {w : World} {b : Nat} {v : Value} {l : List Int} (h : IdRow w b v l) (h0 : 0 < l.length) (hl : l.length ≤ 1000000) : Calls Try.prog 49 #[v] w fun e w' => e = .returned (.tuple #[]) ∧ IdRow w' b v (l.mergeSort fun x y => decide (x ≤ y)) ∧ w.grownBy w' v.ownBlock := by
  obtain ⟨h1, h2⟩ := id h
  rcases h2 with ⟨_, hn⟩ | ⟨g, cap, cur, rfl, hbg, hc, r1, r2, r3, r4⟩
  · omega
  · rw [Nat.mul_one] at r4
    have hg : g < w.heap.size := (Array.getElem?_eq_some_iff.1 hc).1
    refine (lib_slices_Sort_int g 0 cap l w (holds_of_blockI hc r4) hg (by omega)).mono ?_
    rintro e w' ⟨rfl, n, os, rfl⟩
    refine ⟨rfl, ?_, grownBy_sortedI _⟩
    have := ownsRow_sortedI (n := n) (os := os) (base := b) (ss := l) (ts := l.mergeSort fun x y => decide (x ≤ y)) (by simp) hbg hc r1 r2 r3
    unfold IdRow
    rw [show (l.mergeSort fun x y => decide (x ≤ y)).length = l.length by simp]
    exact this

end Go.Proofs.Ytcghclikkeajfaa
