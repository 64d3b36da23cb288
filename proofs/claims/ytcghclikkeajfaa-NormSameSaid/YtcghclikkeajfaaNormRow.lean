/- Numbers of nodes in a row of the call's own, beside the arena; how long they are. -/
import Derived.Test.YtcghclikkeajfaaMf
import Derived.Test.YtcghclikkeajfaaLawLaws10
import Derived.Test.YtcghclikkeajfaaLawPuts9
import Derived.Test.YtcghclikkeajfaaMe
import Derived.Maps.AppendAt
namespace Go.Proofs.Ytcghclikkeajfaa
open Go.RowKit
set_option linter.unusedSimpArgs false
set_option linter.unusedVariables false

def idL (l : List Int) : List Value := l.map (fun x => Value.int .i64 x)
def IdRow (w : World) (base : Nat) (v : Value) (l : List Int) : Prop := w.ownsRow base 3 1 v l.length (idL l)
theorem info_intR : (Try.prog.info? 3).map (fun i => (i.zero, i.size, i.bytes)) = some (some (.int .i64 0), 1, 8) := by kernel_rfl
theorem IdRow.off {w w' : World} {base : Nat} {v : Value} {l : List Int} {F : Nat → Prop} (h : IdRow w base v l) (ho : OffF F w w') (hn : ∀ b, F b → v.ownBlock ≠ some b) : IdRow w' base v l := by
  obtain ⟨h1, h2⟩ := id h
  refine ⟨h1, ?_⟩
  rcases h2 with ⟨e, q⟩ | ⟨g, cap, cur, e, hb, hc, r⟩
  · exact Or.inl ⟨e, q⟩
  · refine Or.inr ⟨g, cap, cur, e, hb, ?_, r⟩
    have hlt := (World.ownsRow.lt h g (by rw [e]; rfl)).2
    exact (ho.block g hlt (fun q => hn g q (by rw [e]; rfl))).trans hc
theorem IdRow.made (w : World) (base : Nat) (hb : base ≤ w.heap.size) (x y z : Int) : IdRow (w.alloc (.cells #[.int .i64 x, .int .i64 y, .int .i64 z] 3)) base (.slice (some ⟨w.heap.size, 0, none⟩) 3 3) [x, y, z] :=
  ⟨rfl, .inr ⟨w.heap.size, 3, #[.int .i64 x, .int .i64 y, .int .i64 z], rfl, hb, At.new _ _ _, Nat.le_refl _, by unfold maxLen; omega, rfl, rfl⟩⟩
theorem IdRow.form {w : World} {base : Nat} {v : Value} {l : List Int} (h : IdRow w base v l) (h0 : 0 < l.length) : ∃ g cap, v = .slice (some ⟨g, 0, none⟩) l.length cap ∧ (∀ (j : Nat) (hj : j < l.length), w.cell? ⟨g, j, none⟩ = some (.int .i64 l[j])) := by
  obtain ⟨g, cap, rfl, _, _⟩ := World.ownsRow.form h h0
  refine ⟨g, cap, rfl, fun j hj => ?_⟩
  rw [World.ownsRow.cellAt h j (by omega)]
  unfold idL
  rw [List.getElem?_map, List.getElem?_eq_getElem hj]
  rfl
section
variable {AA : World → Value → List Nd → (Nat → Prop) → Prop}
structure Rnd (AA : World → Value → List Nd → (Nat → Prop) → Prop) (w0 w : World) (a : Value) (ns : List Nd) (F : Nat → Prop) (v : Value) (ids : List Int) : Prop where
  aa : AA w a ns F
  canon : Canon ns
  row : IdRow w w0.heap.size v ids
  apart : ∀ b, F b → v.ownBlock ≠ some b
  own : ∀ b, F b → w0.heap.size ≤ b
  below : Below w0.heap.size w0 w
variable (S : ArenaBig AA) {w0 w w' : World} {a v : Value} {ns ns' : List Nd} {F : Nat → Prop} {ids : List Int} {m : Nat}
theorem Rnd.op (h : Rnd AA w0 w a ns F v ids) (hs : LSt AA w w' a ns F m ns') : ∃ F', Rnd AA w0 w' a ns' F' v ids ∧ ns'.length ≤ ns.length + m := by
  obtain ⟨F', h1, h2, h3⟩ := hs.ex
  refine ⟨F', ⟨h1, hs.canon, h.row.off h3 h.apart, fun b q => ?_, fun b q => ?_, h.below.trans (h3.below h.own h.below.size)⟩, hs.few⟩
  · rcases h2 b q with q | q
    · exact h.apart b q
    · intro e
      have := (World.ownsRow.lt h.row b e).2
      omega
  · rcases h2 b q with q | q
    · exact h.own b q
    · exact Nat.le_trans h.below.size q
include S in
theorem Rnd.alloc (h : Rnd AA w0 w a ns F v ids) (o : Obj) : Rnd AA w0 (w.alloc o) a ns F v ids :=
  ⟨S.next h.aa ((Below.refl _ _).alloc (Nat.le_refl _) o), h.canon, World.ownsRow.alloc h.row o, h.apart, h.own, h.below.alloc h.below.size o⟩
include S in
theorem Rnd.drewN (h : Rnd AA w0 w a ns F v ids) (q : Nat) : Rnd AA w0 (w.drewN q) a ns F v ids :=
  ⟨S.keep h.aa (fun _ _ => rfl), h.canon, h.row, h.apart, h.own, below_drewN' h.below q⟩
include S in
theorem Rnd.app {v' : Value} {r : Int} (h : Rnd AA w0 w a ns F v ids) (hown : w'.ownsRow w0.heap.size 3 1 v' (ids.length + 1) (idL ids ++ [.int .i64 r])) (hg : w.grownBy w' v.ownBlock) (hat : v'.ownBlock = v.ownBlock ∨ v'.ownBlock = some w.heap.size) : Rnd AA w0 w' a ns F v' (ids ++ [r]) := by
  refine ⟨S.keep h.aa (fun b q => hg.block b (S.low h.aa b q) (fun e => h.apart b q e.symm)), h.canon, ?_, fun b q => ?_, h.own, h.below.grown hg h.below.size (fun g e => (World.ownsRow.lt h.row g e).1)⟩
  · unfold IdRow idL
    rw [List.length_append, List.map_append]
    exact hown
  · rcases hat with e | e
    · rw [e]; exact h.apart b q
    · rw [e]; intro q2; injection q2 with q2
      have := S.low h.aa b q; omega
end
/- How long. -/
def LenW (ns : List Nd) (W4 W5 W3 : Nat) (x : Int) : Prop := LenB ns W4 W5 W3 x ∧ (kd ns x = 6 → LenB ns W4 W5 W3 (ka ns x))
section
variable {ns : List Nd} {W4 W5 W3 : Nat} {x y r : Int}
theorem LenW.upTo {ns' : List Nd} (hf : FineN ns) (h : LenW ns W4 W5 W3 x) (hu : Up ns ns') : LenW ns' W4 W5 W3 x :=
  ⟨h.1.up hf hu, fun k => by
    rw [kd_upTo h.1.1 hu] at k
    obtain ⟨more, rfl⟩ := hu
    rw [ka_up h.1.1]
    exact (h.2 k).up hf ⟨more, rfl⟩⟩
theorem LenW.mono {V4 V5 V3 : Nat} (h : LenW ns W4 W5 W3 x) (h4 : W4 ≤ V4) (h5 : W5 ≤ V5) (h3 : W3 ≤ V3) : LenW ns V4 V5 V3 x := ⟨h.1.mono h4 h5 h3, fun k => (h.2 k).mono h4 h5 h3⟩
theorem leafB (hx : isIn ns x) (h3 : kd ns x ≠ 3) (h4 : kd ns x ≠ 4) (h5 : kd ns x ≠ 5) : LenB ns 1 1 1 x := by
  refine ⟨hx, by rw [mem_leaf h4]; simp, by rw [mem_leaf h5]; simp, ?_⟩
  unfold catN
  by_cases h0 : kd ns x = 0
  · rw [cat_none h0]; simp
  · by_cases h1 : kd ns x = 1
    · rw [cat_empty h1]; simp
    · rw [cat_leaf h0 h1 h3]; simp
theorem leafW (hc : Canon ns) (hx : isIn ns x) (h3 : kd ns x ≠ 3) (h4 : kd ns x ≠ 4) (h5 : kd ns x ≠ 5) (h6 : kd ns x ≠ 6) : LenW ns 1 1 1 x := ⟨leafB hx h3 h4 h5, fun k => absurd k h6⟩
theorem alW (hc : Canon ns) (hx : isIn ns x) (h : isAl ns x = true) : LenW ns 1 1 1 x := by
  unfold isAl at h
  rw [Bool.and_eq_true, decide_eq_true_eq, decide_eq_true_eq] at h
  refine ⟨leafB hx (by omega) (by omega) (by omega), fun _ => ?_⟩
  exact leafB (in_one hc.fine hx (Or.inl h.1)).1 (by omega) (by omega) (by omega)
theorem or_lenw (hc : Canon ns) (hx : LenW ns W4 W5 W3 x) (hy : LenW ns W4 W5 W3 y) (p4 : 1 ≤ W4) (p5 : 1 ≤ W5) (p3 : 1 ≤ W3) (h : JoinR ns 4 [x, y] r) : LenW ns (2 * W4) W5 W3 r := by
  have hl := join_len hc (Or.inl rfl) hx.1.1 hy.1.1 h
  have l1 := hx.1.2.1
  have l2 := hy.1.2.1
  rcases join_which hc (Or.inl rfl) hx.1.1 hy.1.1 h with e | e | e | e | e | e
  · rw [e]; exact hx.mono (by omega) (Nat.le_refl _) (Nat.le_refl _)
  · rw [e]; exact hy.mono (by omega) (Nat.le_refl _) (Nat.le_refl _)
  · refine ⟨⟨h.1, by omega, by rw [mem_leaf (by omega)]; exact p5, ?_⟩, fun k => by omega⟩
    unfold catN; rw [cat_leaf (by omega) (by omega) (by omega)]; exact p3
  · exact (leafW hc h.1 (by omega) (by omega) (by omega) (by omega)).mono (by omega) p5 p3
  · exact (leafW hc h.1 (by omega) (by omega) (by omega) (by omega)).mono (by omega) p5 p3
  · exact (alW hc h.1 e).mono (by omega) p5 p3
theorem and_lenw (hc : Canon ns) (hx : LenW ns W4 W5 W3 x) (hy : LenW ns W4 W5 W3 y) (p4 : 1 ≤ W4) (p5 : 1 ≤ W5) (p3 : 1 ≤ W3) (h : JoinR ns 5 [x, y] r) : LenW ns W4 (2 * W5) W3 r := by
  have hl := join_len hc (Or.inr rfl) hx.1.1 hy.1.1 h
  have l1 := hx.1.2.2.1
  have l2 := hy.1.2.2.1
  rcases join_which hc (Or.inr rfl) hx.1.1 hy.1.1 h with e | e | e | e | e | e
  · rw [e]; exact hx.mono (Nat.le_refl _) (by omega) (Nat.le_refl _)
  · rw [e]; exact hy.mono (Nat.le_refl _) (by omega) (Nat.le_refl _)
  · refine ⟨⟨h.1, by rw [mem_leaf (by omega)]; exact p4, by omega, ?_⟩, fun k => by omega⟩
    unfold catN; rw [cat_leaf (by omega) (by omega) (by omega)]; exact p3
  · exact (leafW hc h.1 (by omega) (by omega) (by omega) (by omega)).mono p4 (by omega) p3
  · exact (leafW hc h.1 (by omega) (by omega) (by omega) (by omega)).mono p4 (by omega) p3
  · exact (alW hc h.1 e).mono p4 (by omega) p3
theorem cat_lenw (hc : Canon ns) (hx : LenW ns W4 W5 W3 x) (hy : LenW ns W4 W5 W3 y) (p4 : 1 ≤ W4) (p5 : 1 ≤ W5) (p3 : 1 ≤ W3) (h : CatR ns x y r) : LenW ns W4 W5 (2 * W3) r := by
  have hl := catN_le h
  have l1 := hx.1.2.2.2
  have l2 := hy.1.2.2.2
  rcases cat_which hc hx.1.1 hy.1.1 h with e | e | e | e | e
  · rw [e]; exact hx.mono (Nat.le_refl _) (Nat.le_refl _) (by omega)
  · rw [e]; exact hy.mono (Nat.le_refl _) (Nat.le_refl _) (by omega)
  · exact ⟨⟨h.1, by rw [mem_leaf (by omega)]; exact p4, by rw [mem_leaf (by omega)]; exact p5, by omega⟩, fun k => by omega⟩
  · exact (leafW hc h.1 (by omega) (by omega) (by omega) (by omega)).mono p4 p5 (by omega)
  · exact (leafW hc h.1 (by omega) (by omega) (by omega) (by omega)).mono p4 p5 (by omega)
theorem not_lenw (hc : Canon ns) (hx : LenW ns W4 W5 W3 x) (p4 : 1 ≤ W4) (p5 : 1 ≤ W5) (p3 : 1 ≤ W3) (h : NotR ns x r) : LenW ns W4 W5 W3 r := by
  by_cases e : kd ns x = 6
  · have hr := h.2.1 e
    refine ⟨by rw [hr]; exact hx.2 e, fun k => ?_⟩
    have := hc.not x hx.1.1 e
    rw [← hr] at this
    exact absurd k this
  · obtain ⟨h6, ha⟩ := h.2.2 e
    exact ⟨(leafB h.1 (by omega) (by omega) (by omega)).mono p4 p5 p3, fun _ => by rw [ha]; exact hx.1⟩
theorem star_lenw (hc : Canon ns) (hx : LenW ns W4 W5 W3 x) (p4 : 1 ≤ W4) (p5 : 1 ≤ W5) (p3 : 1 ≤ W3) (h : StarR ns x r) : LenW ns W4 W5 W3 r := by
  by_cases e : kd ns x = 0 ∨ kd ns x = 1
  · have := h.2.1 e
    exact (leafW hc h.1 (by omega) (by omega) (by omega) (by omega)).mono p4 p5 p3
  · by_cases e7 : kd ns x = 7
    · rw [h.2.2.1 e7]; exact hx
    · have := (h.2.2.2 (by omega) (by omega) e7).1
      exact (leafW hc h.1 (by omega) (by omega) (by omega) (by omega)).mono p4 p5 p3
end
/-- How many nodes there are ahead of pick j, at most. -/
def roomS : Nat → Nat
  | 0 => 60
  | j + 1 => roomS j + (20 * 2 ^ (j / 5 + 1) + 123)
theorem room_ok : ∀ j, j < 30 → roomS j + 30 * 2 ^ (j / 5 + 1) + 160 ≤ 20000 := by decide +kernel

end Go.Proofs.Ytcghclikkeajfaa
