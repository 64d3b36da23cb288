/- What turning an arena's node round does, node by node from below: mathematics; no program is named. -/
import Derived.Test.YtoicbahkoejhjaaArenaTurned
import Derived.Test.YtoicbahkoejhjaaTurnTwice
import Derived.Test.YtoicbahkoejhjaaLawPuts9
namespace Go.Proofs.Ytoicbahkoejhjaa
open Go.RowKit
set_option linter.unusedVariables false
set_option linter.unusedSimpArgs false

theorem turn_fuel {ns : List Nd} : ∀ {f g : Nat} {i x : Int}, TurnR ns f i x → f ≤ g → TurnR ns g i x
  | 0, _, _, _, h, _ => h.elim
  | f + 1, 0, _, _, _, h => by omega
  | f + 1, g + 1, i, x, h, hg => by
    obtain ⟨i0, i1, x0, x1, hk, h2, h3, h45, h67, h8⟩ := h
    exact ⟨i0, i1, x0, x1, hk, h2, fun k => ⟨turn_fuel (h3 k).1 (by omega), turn_fuel (h3 k).2 (by omega)⟩, fun k => ⟨turn_fuel (h45 k).1 (by omega), turn_fuel (h45 k).2 (by omega)⟩, fun k => turn_fuel (h67 k) (by omega), h8⟩
theorem NdOk.mono {x : Nd} {j n : Nat} (h : NdOk x j) (hn : j ≤ n) : NdOk x n :=
  ⟨h.1, fun k => by have := h.2.1 k; omega, fun k => by have := h.2.2.1 k; omega, h.2.2.2⟩
theorem aIn_of {a : Int} {n : Nat} (h0 : 0 ≤ a) (h1 : a < n) : aIn a n = true := by unfold aIn; rw [decide_eq_true h0, decide_eq_true h1]; rfl
theorem two_right {k a b : Int} {n : Nat} (hk : k = 3 ∨ k = 4 ∨ k = 5) (ha : aIn a n = true) (hb : aIn b n = true) : (Nd.mk k noSt a b false).right n = true := by
  unfold Nd.right
  rw [if_neg (by dsimp only; omega), if_neg (by dsimp only; omega), if_pos (by dsimp only; omega), Nd.eqb_self]
  dsimp only
  rw [ha, hb]; rfl
theorem one_right {k a : Int} {n : Nat} (hk : k = 6 ∨ k = 7) (ha : aIn a n = true) : (Nd.mk k noSt a 0 false).right n = true := by
  unfold Nd.right
  rw [if_neg (by dsimp only; omega), if_neg (by dsimp only; omega), if_neg (by dsimp only; omega), if_pos (by dsimp only; omega), Nd.eqb_self]
  dsimp only
  rw [ha]; rfl
/-- A node that names none is right wherever it stands. -/
theorem none_right {x : Nd} {j n : Nat} (h : x.right j = true) (h3 : ¬ (x.kind = 3 ∨ x.kind = 4 ∨ x.kind = 5)) (h6 : ¬ (x.kind = 6 ∨ x.kind = 7)) : x.right n = true := by
  unfold Nd.right at h ⊢
  rw [if_neg h3, if_neg h6] at h
  rw [if_neg h3, if_neg h6]
  exact h
theorem turnN_kind (f : Nat → Int) (x : Nd) : (turnN f x).kind = x.kind := by
  unfold turnN
  split
  · rfl
  · split
    · rfl
    · split <;> rfl
theorem turnN_set (f : Nat → Int) (x : Nd) : (turnN f x).set = x.set := by
  unfold turnN
  split
  · rfl
  · split
    · rfl
    · split <;> rfl
theorem turnN_none (f : Nat → Int) {x : Nd} (h3 : ¬ (x.kind = 3 ∨ x.kind = 4 ∨ x.kind = 5)) (h6 : ¬ (x.kind = 6 ∨ x.kind = 7)) : turnN f x = x := by
  unfold turnN
  rw [if_neg (by omega), if_neg (by omega), if_neg h6]
/-- As far as the first j nodes: those below id have their turned ones. -/
structure TurnJ (ns more : List Nd) (id j : Nat) (f : Nat → Int) : Prop where
  fine : FineN (ns ++ more)
  few : more.length ≤ j
  turned : ∀ k, k < j → belowS ns k (id + 1) id = true → TurnR (ns ++ more) (k + 1) k (f k)
theorem nd_left {ns more : List Nd} {j : Nat} (h : j < ns.length) : ndAt (ns ++ more) j = ndAt ns j := by unfold ndAt; rw [List.getElem?_append_left h]
theorem TurnJ.skip {ns more : List Nd} {id j : Nat} {f : Nat → Int} (h : TurnJ ns more id j f) (hb : belowS ns j (id + 1) id = false) : TurnJ ns more id (j + 1) f :=
  ⟨h.fine, by have := h.few; omega, fun k hk hb' => by
    by_cases e : k = j
    · subst e; rw [hb] at hb'; cases hb'
    · exact h.turned k (by omega) hb'⟩
section
variable {ns more : List Nd} {id j : Nat} {f : Nat → Int} {x : Nd} (h : TurnJ ns more id j f) (hok : ∀ j, j < ns.length → NdOk (ndAt ns j) j) (hid : id < ns.length) (hj : j ≤ id) (hb : belowS ns j (id + 1) id = true) (hx : ndAt ns j = x)
include h hok hid hj hb hx
theorem TurnJ.kid {c : Nat} (hk : kidB x c = true) : TurnR (ns ++ more) j c (f c) := by
  subst hx
  have hc := kid_lt (hok j (by omega)) hk
  exact turn_fuel (h.turned c hc (below_kid hok hid hb hk)) hc
theorem TurnJ.kids : (x.kind = 3 ∨ x.kind = 4 ∨ x.kind = 5 → TurnR (ns ++ more) j x.a (f x.a.toNat) ∧ TurnR (ns ++ more) j x.b (f x.b.toNat)) ∧ (x.kind = 6 ∨ x.kind = 7 → TurnR (ns ++ more) j x.a (f x.a.toNat)) := by
  have ho := hok j (by omega)
  rw [hx] at ho
  constructor
  · intro k3
    have hab := ho.2.1 k3
    obtain ⟨a, ha⟩ : ∃ a : Nat, x.a = a := ⟨x.a.toNat, by omega⟩
    obtain ⟨b, hb'⟩ : ∃ b : Nat, x.b = b := ⟨x.b.toNat, by omega⟩
    have ka : kidB x a = true := by unfold kidB; rw [if_pos k3, decide_eq_true ha, Bool.true_or]
    have kb : kidB x b = true := by unfold kidB; rw [if_pos k3, decide_eq_true hb', Bool.or_true]
    rw [ha, hb', Int.toNat_natCast, Int.toNat_natCast]
    exact ⟨h.kid hok hid hj hb hx ka, h.kid hok hid hj hb hx kb⟩
  · intro k6
    have hab := ho.2.2.1 k6
    obtain ⟨a, ha⟩ : ∃ a : Nat, x.a = a := ⟨x.a.toNat, by omega⟩
    have ka : kidB x a = true := by unfold kidB; rw [if_neg (by omega), if_pos k6, decide_eq_true ha]
    rw [ha, Int.toNat_natCast]
    exact h.kid hok hid hj hb hx ka
theorem TurnJ.fit (hm : (ns ++ more).length ≤ 100000) : NdFit (turnN f x) ∧ (turnN f x).right (ns ++ more).length = true := by
  have hf := h.fine.1 j (by rw [List.length_append]; omega)
  rw [nd_left (by omega), hx] at hf
  obtain ⟨k3, k6⟩ := h.kids hok hid hj hb hx
  by_cases h3 : x.kind = 3 ∨ x.kind = 4 ∨ x.kind = 5
  · obtain ⟨ta, tb⟩ := k3 h3
    have ha := turn_in ta
    have hb' := turn_in tb
    obtain ⟨hs, hn⟩ := right_two hf.1 h3
    have e : turnN f x = ⟨x.kind, noSt, (turnN f x).a, (turnN f x).b, false⟩ := nd_ext (turnN_kind f x) ((turnN_set f x).trans hs) rfl rfl (by
      unfold turnN
      split
      · exact hn
      · rw [if_pos (by omega)]; exact hn)
    have hab : ((turnN f x).a = f x.a.toNat ∧ (turnN f x).b = f x.b.toNat) ∨ ((turnN f x).a = f x.b.toNat ∧ (turnN f x).b = f x.a.toNat) := by
      unfold turnN
      split
      · exact Or.inr ⟨rfl, rfl⟩
      · rw [if_pos (by omega)]; exact Or.inl ⟨rfl, rfl⟩
    have ia : 0 ≤ (turnN f x).a ∧ (turnN f x).a < (ns ++ more).length := by omega
    have ib : 0 ≤ (turnN f x).b ∧ (turnN f x).b < (ns ++ more).length := by omega
    refine ⟨⟨by rw [turnN_kind]; exact hf.2.1, by rw [turnN_set]; exact hf.2.2.1, by unfold I64; omega, by unfold I64; omega⟩, ?_⟩
    rw [e]
    exact two_right h3 (aIn_of ia.1 ia.2) (aIn_of ib.1 ib.2)
  · by_cases h6 : x.kind = 6 ∨ x.kind = 7
    · have ta := turn_in (k6 h6)
      obtain ⟨hs, hb0, hn⟩ := right_one hf.1 h6
      have e : turnN f x = ⟨x.kind, noSt, f x.a.toNat, 0, false⟩ := by
        unfold turnN
        rw [if_neg (by omega), if_neg (by omega), if_pos h6, hs, hb0, hn]
      refine ⟨?_, by rw [e]; exact one_right h6 (aIn_of ta.2.2.1 ta.2.2.2)⟩
      refine ⟨by rw [turnN_kind]; exact hf.2.1, by rw [turnN_set]; exact hf.2.2.1, ?_, ?_⟩
      · rw [e]; unfold I64; dsimp only; omega
      · rw [e]; unfold I64; dsimp only; omega
    · rw [turnN_none f h3 h6]
      exact ⟨hf.2, none_right hf.1 h3 h6⟩
theorem TurnJ.step (hm : (ns ++ more).length ≤ 100000) (hfine : FineN (putS (ns ++ more) (turnN f x))) : ∃ more', putS (ns ++ more) (turnN f x) = ns ++ more' ∧ TurnJ ns more' id (j + 1) (fun k => if k = j then putId (ns ++ more) (turnN f x) else f k) := by
  obtain ⟨hfit, hr⟩ := h.fit hok hid hj hb hx hm
  have hpid : putId (ns ++ more) (turnN f x) = (findN (ns ++ more) (turnN f x) : Int) := by unfold putId; rw [if_pos hr]
  have hle := findN_le (ns ++ more) (turnN f x)
  obtain ⟨more', em, hfew, hpre⟩ : ∃ more', putS (ns ++ more) (turnN f x) = ns ++ more' ∧ more'.length ≤ more.length + 1 ∧ ∃ r, ns ++ more' = (ns ++ more) ++ r := by
    unfold putS
    rw [if_pos hr]
    by_cases hlt : findN (ns ++ more) (turnN f x) < (ns ++ more).length
    · rw [if_pos hlt]
      exact ⟨more, rfl, by omega, [], by rw [List.append_nil]⟩
    · rw [if_neg hlt]
      exact ⟨more ++ [turnN f x], by rw [List.append_assoc], by rw [List.length_append, List.length_singleton]; omega, [turnN f x], by rw [List.append_assoc]⟩
  have hat : findN (ns ++ more) (turnN f x) < (ns ++ more').length ∧ ndAt (ns ++ more') (findN (ns ++ more) (turnN f x)) = turnN f x := by
    rw [← em]
    unfold putS
    rw [if_pos hr]
    by_cases hlt : findN (ns ++ more) (turnN f x) < (ns ++ more).length
    · rw [if_pos hlt]
      refine ⟨hlt, ?_⟩
      exact (Nd.eqb_iff _ _).1 (by
        have := List.findIdx_getElem (p := fun y => Nd.eqb y (turnN f x)) (xs := ns ++ more) (w := hlt)
        rw [ndAt_lt hlt]
        exact this)
    · rw [if_neg hlt]
      have e : findN (ns ++ more) (turnN f x) = (ns ++ more).length := by omega
      rw [e]
      refine ⟨by (have q : ((ns ++ more) ++ [turnN f x]).length = (ns ++ more).length + 1 := by rw [List.length_append]; rfl); omega, ?_⟩
      unfold ndAt
      rw [List.getElem?_append_right (Nat.le_refl _), Nat.sub_self]
      rfl
  obtain ⟨r, er⟩ := hpre
  refine ⟨more', em, by rw [← em]; exact hfine, by have := h.few; omega, fun k hk hb' => ?_⟩
  by_cases e : k = j
  · subst e
    rw [if_pos rfl, hpid]
    obtain ⟨k3, k6⟩ := h.kids hok hid hj hb hx
    have hf := h.fine.1 k (by rw [List.length_append]; omega)
    rw [nd_left (by omega), hx] at hf
    have up : ∀ {i y : Int}, TurnR (ns ++ more) k i y → TurnR (ns ++ more') k i y := fun q => by rw [er]; exact turn_more r _ _ _ q
    refine ⟨by omega, by rw [List.length_append]; omega, by omega, by exact_mod_cast hat.1, ?_⟩
    rw [Int.toNat_natCast, Int.toNat_natCast, nd_left (by omega), hx, hat.2]
    refine ⟨turnN_kind f x, fun _ => turnN_set f x, fun q => ?_, fun q => ?_, fun q => ?_, fun q => ?_⟩
    · have ea : (turnN f x).a = f x.b.toNat ∧ (turnN f x).b = f x.a.toNat := by unfold turnN; rw [if_pos q]; exact ⟨rfl, rfl⟩
      rw [ea.1, ea.2]
      exact ⟨up (k3 (by omega)).1, up (k3 (by omega)).2⟩
    · have ea : (turnN f x).a = f x.a.toNat ∧ (turnN f x).b = f x.b.toNat := by unfold turnN; rw [if_neg (by omega), if_pos q]; exact ⟨rfl, rfl⟩
      rw [ea.1, ea.2]
      exact ⟨up (k3 (by omega)).1, up (k3 (by omega)).2⟩
    · have ea : (turnN f x).a = f x.a.toNat := by unfold turnN; rw [if_neg (by omega), if_neg (by omega), if_pos q]
      rw [ea]
      exact up (k6 q)
    · rw [turnN_none f (by omega) (by omega)]
      exact ⟨rfl, rfl⟩
  · rw [if_neg e, er]
    exact turn_more r _ _ _ (h.turned k (by omega) hb')
end

end Go.Proofs.Ytoicbahkoejhjaa
