/- What putting one behind the other is: mathematics. -/
import Derived.Test.YtcghclikkeajfaaNormEasy
namespace Go.Proofs.Ytcghclikkeajfaa
open Go.RowKit
set_option linter.unusedSimpArgs false
set_option linter.unusedVariables false

theorem cat_split {ns : List Nd} (hf : FineN ns) {r p q : Int} {l : List Int} (hr : isIn ns r) (h : catV ns r = some (p :: q :: l)) : kd ns r = 3 ∧ ka ns r = p ∧ catV ns (kb ns r) = some (q :: l) := by
  by_cases r0 : kd ns r = 0
  · rw [cat_none r0] at h; cases h
  by_cases r1 : kd ns r = 1
  · rw [cat_empty r1] at h; cases h
  by_cases r3 : kd ns r = 3
  · rw [cat_node hf hr r3] at h
    cases hb : catV ns (kb ns r) with
    | none => rw [hb] at h; cases h
    | some m =>
      rw [hb] at h
      injection h with h
      injection h with h1 h2
      exact ⟨r3, h1, by rw [h2]⟩
  · rw [cat_leaf r0 r1 r3] at h
    injection h with h
    injection h with h1 h2
    cases h2
/-- The last step: a node of its own. -/
theorem cat_end {ns more : List Nd} (hc : Canon ns) (hc' : Canon (ns ++ more)) {x y r : Int} (hx : isIn ns x) (hy : isIn ns y) (k0 : kd ns x ≠ 0) (k1 : kd ns x ≠ 1) (k3 : kd ns x ≠ 3) (y0 : kd ns y ≠ 0) (y1 : kd ns y ≠ 1) (hr : isIn (ns ++ more) r) (hn : ndAt (ns ++ more) r.toNat = ⟨3, noSt, x, y, false⟩) (ho : isIn ns r → more = []) :
    CatR (ns ++ more) x y r ∧ ((∃ r0, CatR ns x y r0) → more = []) := by
  have r3 : kd (ns ++ more) r = 3 := by unfold kd; rw [hn]
  have ra : ka (ns ++ more) r = x := by unfold ka; rw [hn]
  have rb : kb (ns ++ more) r = y := by unfold kb; rw [hn]
  have hv : catV (ns ++ more) r = (catV ns y).map (x :: ·) := by rw [cat_node hc'.fine hr r3, ra, rb, catV_up hc.fine more hy]
  obtain ⟨q, l, hyl⟩ := cat_parts hc _ y (Nat.le_refl _) hy y0 y1
  refine ⟨⟨hr, by rw [hv, catV_up hc.fine more hx, catV_up hc.fine more hy, cat_leaf k0 k1 k3]; cases catV ns y <;> rfl⟩, ?_⟩
  rintro ⟨r0, h0, h1⟩
  rw [cat_leaf k0 k1 k3, hyl] at h1
  obtain ⟨z3, za, zb⟩ := cat_split hc.fine h0 (show catV ns r0 = some (x :: q :: l) from h1)
  obtain ⟨_, b0, _⟩ := in_two hc.fine h0 (Or.inl z3)
  have hb : kb ns r0 = y := cat_inj hc _ _ _ (Nat.le_refl _) b0 hy (by rw [zb, hyl])
  have e : r = r0 := two_eq hc'.fine hr (h0.up more) (Or.inl r3) (by rw [r3, kd_up h0, z3]) (by rw [ra, ka_up h0, za]) (by rw [rb, kb_up h0, hb])
  exact ho (by rw [e]; exact h0)
section
variable {AA : World → Value → List Nd → (Nat → Prop) → Prop}
theorem Grows.stay {w w' : World} {a : Value} {ns : List Nd} {F : Nat → Prop} {R : List Nd → Int → Prop} {r : Int} (S : ArenaMid AA) (h : AA w a ns F) (hc : Canon ns) (hb : Below w.heap.size w w') (hr : isIn ns r) (hR : R [] r) : Grows AA w a ns F R (.returned (.int .i64 r)) w' :=
  ⟨r, [], F, rfl, by rw [List.append_nil]; exact S.next h hb, fun b q => Or.inl q, OffF.of hb, by rw [List.append_nil]; exact hc, by rw [List.append_nil]; exact hr, hR⟩
def CatG (ns : List Nd) (x y : Int) (more : List Nd) (r : Int) : Prop := CatR (ns ++ more) x y r ∧ more.length ≤ catN ns x ∧ ((∃ r0, CatR ns x y r0) → more = [])

theorem two_right' {ns : List Nd} {k x y : Int} (hk : k = 3 ∨ k = 4 ∨ k = 5) (hx : isIn ns x) (hy : isIn ns y) : (Nd.mk k noSt x y false).right ns.length = true := by
  unfold isIn at hx hy
  unfold Nd.right aIn
  rw [if_neg (by dsimp only; omega), if_neg (by dsimp only; omega), if_pos (by dsimp only; omega), Nd.eqb_self]
  dsimp only
  rw [decide_eq_true hx.1, decide_eq_true hx.2, decide_eq_true hy.1, decide_eq_true hy.2]; rfl
/-- The one step and the other. -/
theorem cat_both (S : ArenaMid AA) {w w4 w6 w7 : World} {a : Value} {ns more1 more2 : List Nd} {F F1 F2 : Nat → Prop} {x y q r : Int} (hc : Canon ns) (hx : isIn ns x) (hy : isIn ns y) (ia : isIn ns (ka ns x)) (ib : isIn ns (kb ns x)) (k3 : kd ns x = 3) (y0 : kd ns y ≠ 0) (y1 : kd ns y ≠ 1) (hb : Below w.heap.size w w4)
    (g1 : AA w6 a (ns ++ more1) F1) (g2 : ∀ b, F1 b → F b ∨ w4.heap.size ≤ b) (hO : OffF F w w6) (g4 : Canon (ns ++ more1)) (g5 : isIn (ns ++ more1) q) (g6 : CatG ns (kb ns x) y more1 q)
    (k1 : AA w7 a ((ns ++ more1) ++ more2) F2) (k2 : ∀ b, F2 b → F1 b ∨ w6.heap.size ≤ b) (k4 : OffF F1 w6 w7) (k5 : Canon ((ns ++ more1) ++ more2)) (k6 : isIn ((ns ++ more1) ++ more2) r) (k7 : CatG (ns ++ more1) (ka ns x) q more2 r) :
    Grows AA w a ns F (CatG ns x y) (.returned (.int .i64 r)) w7 := by
  obtain ⟨⟨a0, a1, a3⟩, b0, b1⟩ := hc.cat x hx k3
  have hva : catV ns (ka ns x) = some [ka ns x] := cat_leaf a0 a1 a3
  have hvx : catV ns x = (catV ns (kb ns x)).map (ka ns x :: ·) := cat_node hc.fine hx k3
  have hlow : ∀ b, F1 b → F b ∨ w.heap.size ≤ b := fun b z => by
    rcases g2 b z with z | z
    · exact Or.inl z
    · exact Or.inr (Nat.le_trans hb.size z)
  refine ⟨r, more1 ++ more2, F2, rfl, by rw [← List.append_assoc]; exact k1, fun b z => ?_, hO.off k4 hlow, by rw [← List.append_assoc]; exact k5, by rw [← List.append_assoc]; exact k6, ?_, ?_, ?_⟩
  · rcases k2 b z with z | z
    · exact hlow b z
    · exact Or.inr (Nat.le_trans hO.size z)
  · rw [← List.append_assoc]
    refine ⟨k6, ?_⟩
    rw [k7.1.2, catV_up g4.fine more2 (ia.up more1), catV_up hc.fine more1 ia, catV_up g4.fine more2 g5, g6.1.2, catV_up hc.fine more1 ib, catV_up hc.fine more1 hy, catV_up g4.fine more2 (hx.up more1), catV_up hc.fine more1 hx, catV_up g4.fine more2 (hy.up more1), catV_up hc.fine more1 hy, hva, hvx]
    cases catV ns (kb ns x) <;> cases catV ns y <;> simp [catJ]
  · have e1 : catN ns x = 1 + catN ns (kb ns x) := by
      obtain ⟨p, l, hpl⟩ := cat_parts hc _ _ (Nat.le_refl _) ib b0 b1
      unfold catN
      rw [hvx, hpl]
      simp
      omega
    have e2 : catN (ns ++ more1) (ka ns x) = 1 := by unfold catN; rw [catV_up hc.fine more1 ia, hva]; rfl
    have h1 := g6.2.1
    have h2 := k7.2.1
    rw [List.length_append]
    omega
  · rintro ⟨r0, h0, h1⟩
    obtain ⟨p, l, hpl⟩ := cat_parts hc _ _ (Nat.le_refl _) ib b0 b1
    obtain ⟨p2, l2, hyl⟩ := cat_parts hc _ y (Nat.le_refl _) hy y0 y1
    rw [hvx, hpl, hyl] at h1
    obtain ⟨z3, za, zb⟩ := cat_split hc.fine h0 (show catV ns r0 = some (ka ns x :: p :: (l ++ p2 :: l2)) from h1)
    obtain ⟨_, c0, _⟩ := in_two hc.fine h0 (Or.inl z3)
    have hq : CatR ns (kb ns x) y (kb ns r0) := ⟨c0, by rw [zb, hpl, hyl]; rfl⟩
    have e1 : more1 = [] := g6.2.2 ⟨_, hq⟩
    subst e1
    rw [List.append_nil] at g5 k7
    have eq : q = kb ns r0 := cat_inj hc _ _ _ (Nat.le_refl _) g5 c0 (by
      have := g6.1.2
      rw [List.append_nil] at this
      rw [this, hq.2])
    have e2 : more2 = [] := k7.2.2 ⟨r0, h0, by rw [eq, zb, hva, h1]; rfl⟩
    rw [e2]; rfl

/-- What is put together isn't the second one. -/
theorem cat_ne {ns more : List Nd} (hc : Canon ns) {x y r : Int} (hx : isIn ns x) (hy : isIn ns y) (k3 : kd ns x = 3) (y0 : kd ns y ≠ 0) (y1 : kd ns y ≠ 1) (h : CatR (ns ++ more) x y r) : r ≠ y ∧ kd (ns ++ more) r ≠ 0 ∧ kd (ns ++ more) r ≠ 1 := by
  obtain ⟨p, l, hpl⟩ := cat_parts hc _ x (Nat.le_refl _) hx (by omega) (by omega)
  obtain ⟨q, m, hqm⟩ := cat_parts hc _ y (Nat.le_refl _) hy y0 y1
  have e := h.2
  rw [catV_up hc.fine more hx, catV_up hc.fine more hy, hpl, hqm] at e
  refine ⟨fun z => ?_, fun z => ?_, fun z => ?_⟩
  · rw [z, catV_up hc.fine more hy, hqm] at e
    have e : some (q :: m) = some ((p :: l) ++ (q :: m)) := e
    have := congrArg (fun o => (o.getD []).length) e
    simp at this
    omega
  · rw [cat_none z] at e; cases e
  · rw [cat_empty z] at e; cases e
theorem cat_kb {ns more : List Nd} (hc : Canon ns) {x y q : Int} (hx : isIn ns x) (hy : isIn ns y) (k3 : kd ns x = 3) (ib : isIn ns (kb ns x)) (y0 : kd ns y ≠ 0) (y1 : kd ns y ≠ 1) (h : CatR (ns ++ more) (kb ns x) y q) : kd (ns ++ more) q ≠ 0 ∧ kd (ns ++ more) q ≠ 1 := by
  obtain ⟨_, b0, b1⟩ := hc.cat x hx k3
  obtain ⟨p, l, hpl⟩ := cat_parts hc _ _ (Nat.le_refl _) ib b0 b1
  obtain ⟨q', m, hqm⟩ := cat_parts hc _ y (Nat.le_refl _) hy y0 y1
  have e := h.2
  rw [catV_up hc.fine more ib, catV_up hc.fine more hy, hpl, hqm] at e
  refine ⟨fun z => ?_, fun z => ?_⟩
  · rw [cat_none z] at e; cases e
  · rw [cat_empty z] at e; cases e
end

end Go.Proofs.Ytcghclikkeajfaa
