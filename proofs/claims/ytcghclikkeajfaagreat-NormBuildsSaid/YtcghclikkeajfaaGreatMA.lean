/- Joined: NormCatM, NormCat. -/
import Derived.Test.YtcghclikkeajfaaGreatMz
import Derived.Test.YtcghclikkeajfaaGreatMi
/- What putting one behind the other is: mathematics. -/
namespace Go.Proofs.YtcghclikkeajfaaGreat
open Go.RowKit
set_option linter.unusedSimpArgs false
set_option linter.unusedVariables false

theorem cat_split {ns : List Nd} (hf : FineN ns) {r p q : Int} {l : List Int} (hr : isIn ns r) (h : catV ns r = some (p :: q :: l)) : kd ns r = 3 ∧ ka ns r = p ∧ catV ns (kb ns r) = some (q :: l) := by
  by_cases r0 : kd ns r = 0
  · rw [cat_none r0] at h; cases h
  by_cases r1 : kd ns r = 1
  · rw [cat_empty r1] at h; cases h
  by_cases r3 : kd ns r = 3
  · rw [cat_node hf hr r3] at h
    cases hb : catV ns (kb ns r) with
    | none => rw [hb] at h; cases h
    | some m =>
      rw [hb] at h
      injection h with h
      injection h with h1 h2
      exact ⟨r3, h1, by rw [h2]⟩
  · rw [cat_leaf r0 r1 r3] at h
    injection h with h
    injection h with h1 h2
    cases h2
/-- The last step: a node of its own. -/
theorem cat_end {ns more : List Nd} (hc : Canon ns) (hc' : Canon (ns ++ more)) {x y r : Int} (hx : isIn ns x) (hy : isIn ns y) (k0 : kd ns x ≠ 0) (k1 : kd ns x ≠ 1) (k3 : kd ns x ≠ 3) (y0 : kd ns y ≠ 0) (y1 : kd ns y ≠ 1) (hr : isIn (ns ++ more) r) (hn : ndAt (ns ++ more) r.toNat = ⟨3, noSt, x, y, false⟩) (ho : isIn ns r → more = []) :
    CatR (ns ++ more) x y r ∧ ((∃ r0, CatR ns x y r0) → more = []) := by
  have r3 : kd (ns ++ more) r = 3 := by unfold kd; rw [hn]
  have ra : ka (ns ++ more) r = x := by unfold ka; rw [hn]
  have rb : kb (ns ++ more) r = y := by unfold kb; rw [hn]
  have hv : catV (ns ++ more) r = (catV ns y).map (x :: ·) := by rw [cat_node hc'.fine hr r3, ra, rb, catV_up hc.fine more hy]
  obtain ⟨q, l, hyl⟩ := cat_parts hc _ y (Nat.le_refl _) hy y0 y1
  refine ⟨⟨hr, by rw [hv, catV_up hc.fine more hx, catV_up hc.fine more hy, cat_leaf k0 k1 k3]; cases catV ns y <;> rfl⟩, ?_⟩
  rintro ⟨r0, h0, h1⟩
  rw [cat_leaf k0 k1 k3, hyl] at h1
  obtain ⟨z3, za, zb⟩ := cat_split hc.fine h0 (show catV ns r0 = some (x :: q :: l) from h1)
  obtain ⟨_, b0, _⟩ := in_two hc.fine h0 (Or.inl z3)
  have hb : kb ns r0 = y := cat_inj hc _ _ _ (Nat.le_refl _) b0 hy (by rw [zb, hyl])
  have e : r = r0 := two_eq hc'.fine hr (h0.up more) (Or.inl r3) (by rw [r3, kd_up h0, z3]) (by rw [ra, ka_up h0, za]) (by rw [rb, kb_up h0, hb])
  exact ho (by rw [e]; exact h0)
section
variable {AA : World → Value → List Nd → (Nat → Prop) → Prop}
theorem Grows.stay {w w' : World} {a : Value} {ns : List Nd} {F : Nat → Prop} {R : List Nd → Int → Prop} {r : Int} (S : ArenaMid AA) (h : AA w a ns F) (hc : Canon ns) (hb : Below w.heap.size w w') (hr : isIn ns r) (hR : R [] r) : Grows AA w a ns F R (.returned (.int .i64 r)) w' :=
  ⟨r, [], F, rfl, by rw [List.append_nil]; exact S.next h hb, fun b q => Or.inl q, OffF.of hb, by rw [List.append_nil]; exact hc, by rw [List.append_nil]; exact hr, hR⟩
def CatG (ns : List Nd) (x y : Int) (more : List Nd) (r : Int) : Prop := CatR (ns ++ more) x y r ∧ more.length ≤ catN ns x ∧ ((∃ r0, CatR ns x y r0) → more = [])

theorem two_right' {ns : List Nd} {k x y : Int} (hk : k = 3 ∨ k = 4 ∨ k = 5) (hx : isIn ns x) (hy : isIn ns y) : (Nd.mk k noSt x y false).right ns.length = true := by
  unfold isIn at hx hy
  unfold Nd.right aIn
  rw [if_neg (by dsimp only; omega), if_neg (by dsimp only; omega), if_pos (by dsimp only; omega), Nd.eqb_self]
  dsimp only
  rw [decide_eq_true hx.1, decide_eq_true hx.2, decide_eq_true hy.1, decide_eq_true hy.2]; rfl
/-- The one step and the other. -/
theorem cat_both (S : ArenaMid AA) {w w4 w6 w7 : World} {a : Value} {ns more1 more2 : List Nd} {F F1 F2 : Nat → Prop} {x y q r : Int} (hc : Canon ns) (hx : isIn ns x) (hy : isIn ns y) (ia : isIn ns (ka ns x)) (ib : isIn ns (kb ns x)) (k3 : kd ns x = 3) (y0 : kd ns y ≠ 0) (y1 : kd ns y ≠ 1) (hb : Below w.heap.size w w4)
    (g1 : AA w6 a (ns ++ more1) F1) (g2 : ∀ b, F1 b → F b ∨ w4.heap.size ≤ b) (hO : OffF F w w6) (g4 : Canon (ns ++ more1)) (g5 : isIn (ns ++ more1) q) (g6 : CatG ns (kb ns x) y more1 q)
    (k1 : AA w7 a ((ns ++ more1) ++ more2) F2) (k2 : ∀ b, F2 b → F1 b ∨ w6.heap.size ≤ b) (k4 : OffF F1 w6 w7) (k5 : Canon ((ns ++ more1) ++ more2)) (k6 : isIn ((ns ++ more1) ++ more2) r) (k7 : CatG (ns ++ more1) (ka ns x) q more2 r) :
    Grows AA w a ns F (CatG ns x y) (.returned (.int .i64 r)) w7 := by
  obtain ⟨⟨a0, a1, a3⟩, b0, b1⟩ := hc.cat x hx k3
  have hva : catV ns (ka ns x) = some [ka ns x] := cat_leaf a0 a1 a3
  have hvx : catV ns x = (catV ns (kb ns x)).map (ka ns x :: ·) := cat_node hc.fine hx k3
  have hlow : ∀ b, F1 b → F b ∨ w.heap.size ≤ b := fun b z => by
    rcases g2 b z with z | z
    · exact Or.inl z
    · exact Or.inr (Nat.le_trans hb.size z)
  refine ⟨r, more1 ++ more2, F2, rfl, by rw [← List.append_assoc]; exact k1, fun b z => ?_, hO.off k4 hlow, by rw [← List.append_assoc]; exact k5, by rw [← List.append_assoc]; exact k6, ?_, ?_, ?_⟩
  · rcases k2 b z with z | z
    · exact hlow b z
    · exact Or.inr (Nat.le_trans hO.size z)
  · rw [← List.append_assoc]
    refine ⟨k6, ?_⟩
    rw [k7.1.2, catV_up g4.fine more2 (ia.up more1), catV_up hc.fine more1 ia, catV_up g4.fine more2 g5, g6.1.2, catV_up hc.fine more1 ib, catV_up hc.fine more1 hy, catV_up g4.fine more2 (hx.up more1), catV_up hc.fine more1 hx, catV_up g4.fine more2 (hy.up more1), catV_up hc.fine more1 hy, hva, hvx]
    cases catV ns (kb ns x) <;> cases catV ns y <;> simp [catJ]
  · have e1 : catN ns x = 1 + catN ns (kb ns x) := by
      obtain ⟨p, l, hpl⟩ := cat_parts hc _ _ (Nat.le_refl _) ib b0 b1
      unfold catN
      rw [hvx, hpl]
      simp
      omega
    have e2 : catN (ns ++ more1) (ka ns x) = 1 := by unfold catN; rw [catV_up hc.fine more1 ia, hva]; rfl
    have h1 := g6.2.1
    have h2 := k7.2.1
    rw [List.length_append]
    omega
  · rintro ⟨r0, h0, h1⟩
    obtain ⟨p, l, hpl⟩ := cat_parts hc _ _ (Nat.le_refl _) ib b0 b1
    obtain ⟨p2, l2, hyl⟩ := cat_parts hc _ y (Nat.le_refl _) hy y0 y1
    rw [hvx, hpl, hyl] at h1
    obtain ⟨z3, za, zb⟩ := cat_split hc.fine h0 (show catV ns r0 = some (ka ns x :: p :: (l ++ p2 :: l2)) from h1)
    obtain ⟨_, c0, _⟩ := in_two hc.fine h0 (Or.inl z3)
    have hq : CatR ns (kb ns x) y (kb ns r0) := ⟨c0, by rw [zb, hpl, hyl]; rfl⟩
    have e1 : more1 = [] := g6.2.2 ⟨_, hq⟩
    subst e1
    rw [List.append_nil] at g5 k7
    have eq : q = kb ns r0 := cat_inj hc _ _ _ (Nat.le_refl _) g5 c0 (by
      have := g6.1.2
      rw [List.append_nil] at this
      rw [this, hq.2])
    have e2 : more2 = [] := k7.2.2 ⟨r0, h0, by rw [eq, zb, hva, h1]; rfl⟩
    rw [e2]; rfl

/-- What is put together isn't the second one. -/
theorem cat_ne {ns more : List Nd} (hc : Canon ns) {x y r : Int} (hx : isIn ns x) (hy : isIn ns y) (k3 : kd ns x = 3) (y0 : kd ns y ≠ 0) (y1 : kd ns y ≠ 1) (h : CatR (ns ++ more) x y r) : r ≠ y ∧ kd (ns ++ more) r ≠ 0 ∧ kd (ns ++ more) r ≠ 1 := by
  obtain ⟨p, l, hpl⟩ := cat_parts hc _ x (Nat.le_refl _) hx (by omega) (by omega)
  obtain ⟨q, m, hqm⟩ := cat_parts hc _ y (Nat.le_refl _) hy y0 y1
  have e := h.2
  rw [catV_up hc.fine more hx, catV_up hc.fine more hy, hpl, hqm] at e
  refine ⟨fun z => ?_, fun z => ?_, fun z => ?_⟩
  · rw [z, catV_up hc.fine more hy, hqm] at e
    have e : some (q :: m) = some ((p :: l) ++ (q :: m)) := e
    have := congrArg (fun o => (o.getD []).length) e
    simp at this
    omega
  · rw [cat_none z] at e; cases e
  · rw [cat_empty z] at e; cases e
theorem cat_kb {ns more : List Nd} (hc : Canon ns) {x y q : Int} (hx : isIn ns x) (hy : isIn ns y) (k3 : kd ns x = 3) (ib : isIn ns (kb ns x)) (y0 : kd ns y ≠ 0) (y1 : kd ns y ≠ 1) (h : CatR (ns ++ more) (kb ns x) y q) : kd (ns ++ more) q ≠ 0 ∧ kd (ns ++ more) q ≠ 1 := by
  obtain ⟨_, b0, b1⟩ := hc.cat x hx k3
  obtain ⟨p, l, hpl⟩ := cat_parts hc _ _ (Nat.le_refl _) ib b0 b1
  obtain ⟨q', m, hqm⟩ := cat_parts hc _ y (Nat.le_refl _) hy y0 y1
  have e := h.2
  rw [catV_up hc.fine more ib, catV_up hc.fine more hy, hpl, hqm] at e
  refine ⟨fun z => ?_, fun z => ?_⟩
  · rw [cat_none z] at e; cases e
  · rw [cat_empty z] at e; cases e
end

end Go.Proofs.YtcghclikkeajfaaGreat

/- norm.Cat: one behind the other, by recursion over the number of the first one. -/
namespace Go.Proofs.YtcghclikkeajfaaGreat
open Go.RowKit
set_option linter.unusedSimpArgs false
set_option linter.unusedVariables false

section
variable {AA : World → Value → List Nd → (Nat → Prop) → Prop}
/-- What ahead does, as far as the numbers up to n. -/
def AheadIs (AA : World → Value → List Nd → (Nat → Prop) → Prop) (n : Nat) : Prop := ∀ (x y : Int) {w : World} {a : Value} {ns : List Nd} {F : Nat → Prop} (g : Nat), x.toNat ≤ n → AA w a ns F → Canon ns → isIn ns x → isIn ns y → kd ns y ≠ 0 → kd ns y ≠ 1 → At w g 128 #[a, .map none] → ¬ F g → ns.length + catN ns x + 4 ≤ 20000 →
  Calls Tryz.prog 89 #[.pointer (some ⟨g, 0, none⟩), .int .i64 x, .int .i64 y] w (Grows AA w a ns F (CatG ns x y))

set_option maxRecDepth 100000 in
set_option maxHeartbeats 16000000 in
theorem nCatAhead (S : ArenaMid AA) (n : Nat) (IH : AheadIs AA n) (x y : Int) (u : Nd) {w : World} {a : Value} {ns : List Nd} {F : Nat → Prop} (g : Nat) (hn : x.toNat ≤ n + 1) (h : AA w a ns F) (hc : Canon ns) (hx : isIn ns x) (hy : isIn ns y) (y0 : kd ns y ≠ 0) (y1 : kd ns y ≠ 1) (hg : At w g 128 #[a, .map none]) (hF : ¬ F g) (hroom : ns.length + catN ns x + 4 ≤ 20000) (k3 : kd ns x = 3) (hu : u = ndAt ns x.toNat) :
    Calls Tryz.prog 102 #[.pointer (some ⟨g, 0, none⟩), .int .i64 x, .agg u.cs.toArray, .int .i64 y] w (Grows AA w a ns F (CatG ns x y)) := by
  have hmx := S.max h
  have hxI : I64 x := by unfold isIn at hx; unfold I64; omega
  have hyI : I64 y := by unfold isIn at hy; unfold I64; omega
  obtain ⟨⟨ia, la⟩, ib, lb⟩ := in_two hc.fine hx (Or.inl k3)
  have HKa : Hid (ka ns x = u.a) := Lib.hid (by unfold ka; rw [hu])
  have HKb : Hid (kb ns x = u.b) := Lib.hid (by unfold kb; rw [hu])
  have HFl : Hid (∀ b, F b → b < w.heap.size) := Lib.hid (S.low h)
  obtain ⟨⟨ka0, ka1, ka3⟩, kb0, kb1⟩ := hc.cat x hx k3
  have HCn : Hid (catN ns x = 1 + catN ns (kb ns x)) := Lib.hid (by
    obtain ⟨p, l, hpl⟩ := cat_parts hc _ _ (Nat.le_refl _) ib kb0 kb1
    unfold catN
    rw [cat_node hc.fine hx k3, hpl]
    simp
    omega)
  have HCa : Hid (∀ more, catN (ns ++ more) (ka ns x) = 1) := Lib.hid (fun more => by
    unfold catN
    rw [catV_up hc.fine more ia, cat_leaf ka0 ka1 ka3]; rfl)
  have HIa := Lib.hid ia
  have HIb := Lib.hid ib
  have HNa : Hid ((ka ns x).toNat ≤ n ∧ (kb ns x).toNat ≤ n) := Lib.hid (by
    have h1 := ia; have h2 := ib; unfold isIn at h1 h2; omega)
  have HX := Lib.hid hx
  have HY := Lib.hid hy
  have HY0 := Lib.hid y0
  have HY1 := Lib.hid y1
  have HC := Lib.hid hc
  have HF := Lib.hid hF
  have HRoom := Lib.hid hroom
  have HK3 := Lib.hid k3
  have HB0 : Hid (Below w.heap.size w (w.alloc (.cells u.cs.toArray 65))) := Lib.hid ((Below.refl _ _).alloc (Nat.le_refl _) _)
  have HA0 := Lib.hid h
  have hgl := hg.lt
  have hG := hg.alloc (.cells u.cs.toArray 65)
  have hU := At.new w 65 u.cs.toArray
  have c0 : (w.alloc (.cells u.cs.toArray 65)).cell? ⟨g, 0, none⟩ = some a := hG.cell 0
  have c1 : (w.alloc (.cells u.cs.toArray 65)).cell? ⟨g, 1, none⟩ = some (.map none) := hG.cell 1
  have hlk := fun w => look_no w hxI
  have HIH := Lib.hid IH
  clear IH hn h hc hx hy y0 y1 hg hF hroom k3 hu ia la ib lb ka0 ka1 ka3 kb0 kb1
  obtain ⟨gp, rfl⟩ := S.ptr HA0.out
  have hu5 : u.cs[5]? = some (.int .i64 u.a) := rfl
  have hu6 : u.cs[6]? = some (.int .i64 u.b) := rfl
  obtain ⟨W2, hW2⟩ : ∃ W2, W2 = (w.alloc (.cells u.cs.toArray 65)).alloc (.cells #[] 98) := ⟨_, rfl⟩
  have HB2 : Hid (Below w.heap.size w W2) := Lib.hid (by rw [hW2]; exact HB0.out.alloc (by simp) _)
  have HA2 := Lib.hid (S.next HA0.out HB2.out)
  have HG2 : Hid (At W2 g 128 #[.pointer (some ⟨gp, 0, none⟩), .map none]) := Lib.hid (by rw [hW2]; exact hG.alloc _)
  have HU2 : Hid (At W2 w.heap.size 65 u.cs.toArray) := Lib.hid (by rw [hW2]; exact hU.alloc _)
  have HI1 := Lib.hid (HIH.out (kb ns x) y g HNa.out.2 HA2.out HC.out HIb.out HY.out HY0.out HY1.out HG2.out HF.out (by have := HRoom.out; have := HCn.out; omega))
  have HW2 := Lib.hid hW2
  rw [hW2, HKb.out] at HI1
  clear hW2
  go_enter Tryz.func102, Tryz.ntmps102
  go_wp2_with fail
  refine HI1.out.mono ?_
  rw [← HW2.out, ← HKb.out]
  rintro e w6 ⟨q, more1, F1, rfl, g1, g2, g3, g4, g5, g6⟩
  have HG6 : Hid (At w6 g 128 #[.pointer (some ⟨gp, 0, none⟩), .map none]) := Lib.hid ((g3.block _ HG2.out.lt (fun z => HF.out z)).trans HG2.out)
  have HU6 : Hid (At w6 w.heap.size 65 u.cs.toArray) := Lib.hid ((g3.block _ HU2.out.lt (fun z => by have := HFl.out _ z; omega)).trans HU2.out)
  have HO6 : Hid (OffF F w w6) := Lib.hid ((OffF.of HB2.out).off g3 (fun b z => Or.inl z))
  have HF1 : Hid (¬ F1 g) := Lib.hid (fun z => by
    rcases g2 _ z with z | z
    · exact HF.out z
    · have := HB2.out.size; omega)
  have HFl1 : Hid (∀ b, F1 b → F b ∨ w.heap.size < b) := Lib.hid (fun b z => by
    rcases g2 b z with z | z
    · exact Or.inl z
    · have h2 := HW2.out; rw [h2] at z; simp at z; exact Or.inr (by omega))
  obtain ⟨q0, q1⟩ := cat_kb HC.out HX.out HY.out HK3.out HIb.out HY0.out HY1.out g6.1
  have HQ0 := Lib.hid q0
  have HQ1 := Lib.hid q1
  have HR1 : Hid ((ns ++ more1).length + 1 + 4 ≤ 20000) := Lib.hid (by have := HRoom.out; have h1 := HCn.out; have h2 := g6.2.1; rw [List.length_append]; omega)
  have HKn := Lib.hid (nKind S q g1 g5)
  have hqn : ¬ q < 0 := by unfold isIn at g5; omega
  have hqd : decide (q < 0) = false := decide_eq_false hqn
  have H1 := Lib.hid g1
  have H2 := Lib.hid g2
  have H4 := Lib.hid g4
  have H5 := Lib.hid g5
  have H6 := Lib.hid g6
  clear g1 g2 g3 g4 g5 g6 q0 q1 c0 c1 hG hU
  have c0 := HG6.out.cell 0
  have c1 := HG6.out.cell 1
  obtain ⟨u0, u1, u2, u3, u4, u5, u6, u7⟩ := Nd.cells HU6.out
  go_wp2_with fail
  refine HKn.out.mono ?_
  rintro e w7 ⟨rfl, hb7⟩
  have HA7 := Lib.hid (S.next H1.out hb7)
  have HG7 : Hid (At w7 g 128 #[.pointer (some ⟨gp, 0, none⟩), .map none]) := Lib.hid ((hb7.block _ HG6.out.lt).trans HG6.out)
  have HU7 : Hid (At w7 w.heap.size 65 u.cs.toArray) := Lib.hid ((hb7.block _ HU6.out.lt).trans HU6.out)
  have HO7 : Hid (OffF F w w7) := Lib.hid (HO6.out.then hb7)
  have HS7 : Hid (w6.heap.size ≤ w7.heap.size) := Lib.hid hb7.size
  have HB7 := Lib.hid hb7
  have hq0b : (kd (ns ++ more1) q == 0) = false := (int_ne HQ0.out).1
  have HI2 := Lib.hid (HIH.out (ka ns x) q g HNa.out.1 HA7.out H4.out (HIa.out.up more1) H5.out HQ0.out HQ1.out HG7.out HF1.out (by have := HR1.out; have := HCa.out more1; omega))
  clear hb7 c0 c1 u0 u1 u2 u3 u4 u5 u6 u7
  have c0 := HG7.out.cell 0
  have c1 := HG7.out.cell 1
  obtain ⟨u0, u1, u2, u3, u4, u5, u6, u7⟩ := Nd.cells HU7.out
  rw [← HKa.out] at u5
  go_wp2_with fail
  refine HI2.out.mono ?_
  rintro e w8 ⟨r, more2, F2, rfl, k1, k2, k3, k4, k5, k6⟩
  have HG : Hid (Grows AA w (.pointer (some ⟨gp, 0, none⟩)) ns F (CatG ns x y) (.returned (.int .i64 r)) w8) := Lib.hid (cat_both S HC.out HX.out HY.out HIa.out HIb.out HK3.out HY0.out HY1.out HB2.out H1.out H2.out HO6.out H4.out H5.out H6.out k1 (fun b z => by
    rcases k2 b z with z | z
    · exact Or.inl z
    · exact Or.inr (Nat.le_trans HS7.out z)) ((OffF.of (show Below w6.heap.size w6 w7 from HB7.out)).off k3 (fun b z => Or.inl z)) k4 k5 k6)
  have hrn : r ≠ y := by
    obtain ⟨r', more, F', e, _, _, _, _, _, hR⟩ := HG.out
    injection e with e
    injection e with _ e
    subst e
    exact (cat_ne HC.out HX.out HY.out HK3.out HY0.out HY1.out hR.1).1
  have hrb := (int_ne hrn).1
  clear k1 k2 k3 k4 k5 k6 hrn
  go_wp2_with fail
  go_ret
  exact HG.out

set_option maxRecDepth 100000 in
set_option maxHeartbeats 16000000 in
theorem nAheadOf (S : ArenaMid AA) (n : Nat) (hIH : Hid (∀ m, m + 1 = n → AheadIs AA m)) : AheadIs AA n := by
    intro x y w a ns F g hn h hc hx hy y0 y1 hg hF hroom
    have hmx := S.max h
    have hxI : I64 x := by unfold isIn at hx; unfold I64; omega
    have hyI : I64 y := by unfold isIn at hy; unfold I64; omega
    have HN := Lib.hid (S.nodeIn x h hxI)
    have HA := Lib.hid h
    have HX := Lib.hid hx
    have HY := Lib.hid hy
    have HY0 := Lib.hid y0
    have HY1 := Lib.hid y1
    have HC := Lib.hid hc
    have HF := Lib.hid hF
    have HRoom := Lib.hid hroom
    have HNn := Lib.hid hn
    have HG := Lib.hid hg
    have hdx : decide (0 ≤ x ∧ x < (ns.length : Int)) = true := decide_eq_true hx
    obtain ⟨gp, rfl⟩ := S.ptr HA.out
    have c0 := HG.out.cell 0
    clear h hc hx hy y0 y1 hF hroom hn hg
    go_enter Tryz.func89, Tryz.ntmps89
    go_wp2_with fail
    refine HN.out.mono ?_
    rintro e w1 ⟨u, rfl, hu, hb1⟩
    have hu := hu HX.out
    rw [hdx]
    have HU := Lib.hid hu
    have HKx : Hid (kd ns x = u.kind) := Lib.hid (by unfold kd; rw [← hu])
    have HBb := Lib.hid (hb1.trans ((boxN_next w1 u).mono hb1.size))
    have HXb := Lib.hid (boxN_at w1 u)
    have HAb := Lib.hid (S.next HA.out HBb.out)
    have HGb : Hid (At (boxN w1 u) g 128 #[.pointer (some ⟨gp, 0, none⟩), .map none]) := Lib.hid ((HBb.out.block _ HG.out.lt).trans HG.out)
    have ck := (Nd.cells HXb.out).1
    clear hu hb1 hdx c0
    have c0 := HGb.out.cell 0
    by_cases x0 : u.kind = 0
    · have HE : Hid (kd ns x = 0) := Lib.hid (by rw [HKx.out]; exact x0)
      rw [x0] at ck
      clear x0
      go_wp2_with (first
      | (with_reducible show wpList _ _ _ ({ dst := none, op := .store _ _ _, type := _, pos := _, after := _, guard := _ } :: _) _ _
         refine wpList_store_row rfl 65 _ _ rfl w1.heap.size u.cs.toArray rfl rfl 65 Nd.zero.cs.toArray (At.new _ _ _) (by kernel_rfl) rfl (Nd.one u) ?_
         first | change wpList _ _ _ _ _ (boxN w1 u) | change Exit.then _ _ _ _ (boxN w1 u))
      | fail)
      go_ret
      exact Grows.stay S HA.out HC.out HBb.out HX.out ⟨⟨by rw [List.append_nil]; exact HX.out, by rw [List.append_nil, cat_none HE.out]; first | (cases catV ns y <;> rfl) | (cases catV ns x <;> simp [catJ])⟩, Nat.zero_le _, fun _ => rfl⟩
    have HKx0 : Hid (kd ns x ≠ 0) := Lib.hid (by rw [HKx.out]; exact x0)
    have x0b := (int_ne x0).1
    clear x0
    by_cases x1 : u.kind = 1
    · have HE : Hid (kd ns x = 1) := Lib.hid (by rw [HKx.out]; exact x1)
      rw [x1] at ck x0b
      clear x1 x0b
      go_wp2_with (first
      | (with_reducible show wpList _ _ _ ({ dst := none, op := .store _ _ _, type := _, pos := _, after := _, guard := _ } :: _) _ _
         refine wpList_store_row rfl 65 _ _ rfl w1.heap.size u.cs.toArray rfl rfl 65 Nd.zero.cs.toArray (At.new _ _ _) (by kernel_rfl) rfl (Nd.one u) ?_
         first | change wpList _ _ _ _ _ (boxN w1 u) | change Exit.then _ _ _ _ (boxN w1 u))
      | fail)
      go_ret
      exact Grows.stay S HA.out HC.out HBb.out HY.out ⟨⟨by rw [List.append_nil]; exact HY.out, by rw [List.append_nil, cat_empty HE.out]; first | (cases catV ns y <;> rfl) | (cases catV ns y <;> simp [catJ])⟩, Nat.zero_le _, fun _ => rfl⟩
    have HKx1 : Hid (kd ns x ≠ 1) := Lib.hid (by rw [HKx.out]; exact x1)
    have x1b := (int_ne x1).1
    clear x1
    by_cases x3 : u.kind = 3
    · have HKx3 : Hid (kd ns x = 3) := Lib.hid (by rw [HKx.out]; exact x3)
      have hcl : u.cs.length = 8 := rfl
      have HCA : Hid (Calls Tryz.prog 102 #[.pointer (some ⟨g, 0, none⟩), .int .i64 x, .agg u.cs.toArray, .int .i64 y] (boxN w1 u) (Grows AA (boxN w1 u) (.pointer (some ⟨gp, 0, none⟩)) ns F (CatG ns x y))) := Lib.hid (by
        obtain ⟨⟨ia, la⟩, _⟩ := in_two HC.out.fine HX.out (Or.inl HKx3.out)
        have h1 := HNn.out
        have h2 := HX.out
        unfold isIn at ia h2
        obtain ⟨m, hm⟩ : ∃ m, n = m + 1 := ⟨n - 1, by omega⟩
        exact nCatAhead S m (hIH.out m hm.symm) x y u g (by omega) HAb.out HC.out HX.out HY.out HY0.out HY1.out HGb.out HF.out HRoom.out HKx3.out HU.out)
      rw [x3] at ck x0b x1b
      clear x3 x0b x1b
      go_wp2_with (first
        | (with_reducible show wpList _ _ _ ({ dst := none, op := .store _ _ _, type := _, pos := _, after := _, guard := _ } :: _) _ _
           refine wpList_store_row rfl 65 _ _ rfl w1.heap.size u.cs.toArray rfl rfl 65 Nd.zero.cs.toArray (At.new _ _ _) (by kernel_rfl) rfl (Nd.one u) ?_
           first | change wpList _ _ _ _ _ (boxN w1 u) | change Exit.then _ _ _ _ (boxN w1 u))
        | (with_reducible show wpList _ _ _ ({ dst := _, op := .load 65 (.tmp 7), type := _, pos := _, after := _, guard := _ } :: _) _ _
           refine wpList_load_row_want (by rfl) 65 _ rfl w1.heap.size rfl 65 u.cs.toArray (0, 0) _ HXb.out Tryz.underlying65 rfl (by rw [List.size_toArray, Nd.cs_length]; kernel_rfl) ?_)
        | fail)
      refine HCA.out.mono ?_
      rintro e w5 gr
      obtain ⟨r, _, _, rfl, _⟩ := id gr
      have HGr := Lib.hid (gr.from HBb.out)
      clear gr
      go_wp2_with fail
      go_ret
      exact HGr.out
    · have HKx3 : Hid (kd ns x ≠ 3) := Lib.hid (by rw [HKx.out]; exact x3)
      have x3b := (int_ne x3).1
      clear x3
      have HP := Lib.hid (nPut S ⟨3, noSt, x, y, false⟩ HAb.out HC.out (fit_small _ _ _ _ (by unfold I64; omega) hxI hyI) (two_right' (Or.inl rfl) HX.out HY.out) (fits_cat ⟨HKx0.out, HKx1.out, HKx3.out⟩ HY0.out HY1.out) (by have := HRoom.out; omega))
      go_wp2_with (first
      | (with_reducible show wpList _ _ _ ({ dst := none, op := .store _ _ _, type := _, pos := _, after := _, guard := _ } :: _) _ _
         refine wpList_store_row rfl 65 _ _ rfl w1.heap.size u.cs.toArray rfl rfl 65 Nd.zero.cs.toArray (At.new _ _ _) (by kernel_rfl) rfl (Nd.one u) ?_
         first | change wpList _ _ _ _ _ (boxN w1 u) | change Exit.then _ _ _ _ (boxN w1 u))
      | fail)
      refine HP.out.mono ?_
      rintro e w5 gr
      obtain ⟨r, _, _, rfl, _⟩ := id gr
      have HGr : Hid (Grows AA w (.pointer (some ⟨gp, 0, none⟩)) ns F (CatG ns x y) (.returned (.int .i64 r)) w5) := Lib.hid (by
        obtain ⟨r', more, F', g0, g1, g2, g3, g4, g5, g6⟩ := gr.from HBb.out
        obtain ⟨q1, q2⟩ := cat_end HC.out g4 HX.out HY.out HKx0.out HKx1.out HKx3.out HY0.out HY1.out g5 g6.1 g6.2.2
        refine ⟨r', more, F', g0, g1, g2, g3, g4, g5, q1, ?_, q2⟩
        have : catN ns x = 1 := by unfold catN; rw [cat_leaf HKx0.out HKx1.out HKx3.out]; rfl
        have := g6.2.1
        omega)
      clear gr
      go_wp2_with fail
      go_ret
      exact HGr.out
theorem nAhead (S : ArenaMid AA) : ∀ n : Nat, AheadIs AA n
  | 0 => nAheadOf S 0 (Lib.hid (fun m h => absurd h (Nat.succ_ne_zero m)))
  | n + 1 => nAheadOf S (n + 1) (Lib.hid (fun m h => (Nat.succ.inj h).symm ▸ nAhead S n))

set_option maxRecDepth 100000 in
set_option maxHeartbeats 16000000 in
theorem nCat (S : ArenaMid AA) (x y : Int) {w : World} {a : Value} {ns : List Nd} {F : Nat → Prop} (h : AA w a ns F) (hc : Canon ns) (hx : isIn ns x) (hy : isIn ns y) (hroom : ns.length + catN ns x + 4 ≤ 20000) :
    Calls Tryz.prog 73 #[a, .int .i64 x, .int .i64 y] w (Grows AA w a ns F (CatG ns x y)) := by
  have hmx := S.max h
  have hxI : I64 x := by unfold isIn at hx; unfold I64; omega
  have hyI : I64 y := by unfold isIn at hy; unfold I64; omega
  have HX := Lib.hid hx
  have HY := Lib.hid hy
  have HC := Lib.hid hc
  have HRoom := Lib.hid hroom
  have HB : Hid (Below w.heap.size w (w.alloc (.cells #[.int .i64 x, .int .i64 y] 3))) := Lib.hid ((Below.refl _ _).alloc (Nat.le_refl _) _)
  have HA0 := Lib.hid h
  have HA := Lib.hid (S.next h HB.out)
  have HT : Hid (Calls Tryz.prog 41 #[a, .slice (some ⟨w.heap.size, 0, none⟩) 2 2] (w.alloc (.cells #[.int .i64 x, .int .i64 y] 3)) fun e w' => e = .returned (.bool true) ∧ w' = w.alloc (.cells #[.int .i64 x, .int .i64 y] 3)) := Lib.hid (nThere S [x, y] HA.out (list_two _ _ _ _) (by simp) (fun z hz => by simp at hz; rcases hz with rfl | rfl; exact hx; exact hy))
  have HKy := Lib.hid (nKind S y HA.out hy)
  obtain ⟨gp, rfl⟩ := S.ptr h
  clear h hc hx hy hroom
  go_enter Tryz.func73, Tryz.ntmps73
  go_wp2_with fail
  refine HT.out.mono ?_
  rintro e w1 ⟨rfl, rfl⟩
  go_wp2_with fail
  refine HKy.out.mono ?_
  rintro e w1 ⟨rfl, hb1⟩
  have HB1 := Lib.hid (HB.out.trans (hb1.mono HB.out.size))
  have HA1 := Lib.hid (S.next HA.out hb1)
  clear hb1
  by_cases y1 : kd ns y = 1
  · have hyb : (kd ns y == 1) = true := by rw [y1]; rfl
    have HE := Lib.hid y1
    clear y1
    go_wp2_with fail
    go_ret
    exact Grows.stay S HA0.out HC.out HB1.out HX.out ⟨⟨by rw [List.append_nil]; exact HX.out, by rw [List.append_nil, cat_empty HE.out]; cases catV ns x <;> simp [catJ]⟩, Nat.zero_le _, fun _ => rfl⟩
  have HY1 := Lib.hid y1
  have y1b := (int_ne y1).1
  have HKy2 := Lib.hid (nKind S y HA1.out HY.out)
  clear y1
  go_wp2_with fail
  refine HKy2.out.mono ?_
  rintro e w2 ⟨rfl, hb2⟩
  have HB2 := Lib.hid (HB1.out.trans (hb2.mono HB1.out.size))
  have HA2 := Lib.hid (S.next HA1.out hb2)
  clear hb2
  by_cases y0 : kd ns y = 0
  · have hyb : (kd ns y == 0) = true := by rw [y0]; rfl
    have HE := Lib.hid y0
    clear y0
    go_wp2_with fail
    go_ret
    exact Grows.stay S HA0.out HC.out HB2.out HY.out ⟨⟨by rw [List.append_nil]; exact HY.out, by rw [List.append_nil, cat_none HE.out]; cases catV ns x <;> rfl⟩, Nat.zero_le _, fun _ => rfl⟩
  have HY0 := Lib.hid y0
  have y0b := (int_ne y0).1
  clear y0
  obtain ⟨w3, hw3⟩ : ∃ w3, w3 = w2.alloc (.cells #[.pointer (some ⟨gp, 0, none⟩), .map none] 128) := ⟨_, rfl⟩
  have HB3 : Hid (Below w.heap.size w w3) := Lib.hid (by rw [hw3]; exact HB2.out.alloc HB2.out.size _)
  have HA3 := Lib.hid (S.next HA0.out HB3.out)
  have HG3 : Hid (At w3 w2.heap.size 128 #[.pointer (some ⟨gp, 0, none⟩), .map none]) := Lib.hid (by rw [hw3]; exact At.new _ _ _)
  have HI := Lib.hid (nAhead S x.toNat x y w2.heap.size (Nat.le_refl _) HA3.out HC.out HX.out HY.out HY0.out HY1.out HG3.out (fun z => by have := S.low HA2.out _ z; omega) HRoom.out)
  have HW3 := Lib.hid hw3
  rw [hw3] at HI
  clear hw3
  go_wp2_with fail
  refine HI.out.mono ?_
  rw [← HW3.out]
  rintro e w5 gr
  obtain ⟨r, _, _, rfl, _⟩ := id gr
  have HGr := Lib.hid (gr.from HB3.out)
  clear gr
  go_wp2_with fail
  go_ret
  exact HGr.out
end

end Go.Proofs.YtcghclikkeajfaaGreat
