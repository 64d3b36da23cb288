/- A node that is turned round twice is the node: mathematics; no program is named. -/
import Derived.Test.YtoicbahkoejhjaaNodeTurn
import Derived.Test.YtoicbahkoejhjaaArenaSpec
namespace Go.Proofs.Ytoicbahkoejhjaa
open Go.RowKit
set_option linter.unusedSimpArgs false
set_option linter.unusedVariables false

theorem nd_ext {x y : Nd} (h0 : x.kind = y.kind) (h1 : x.set = y.set) (h2 : x.a = y.a) (h3 : x.b = y.b) (h4 : x.neg = y.neg) : x = y := by
  cases x; cases y; simp_all
/-- What a right node has, kind by kind. -/
theorem right_bare {x : Nd} {n : Nat} (h : x.right n = true) (hk : x.kind = 0 ∨ x.kind = 1) : x.set = noSt ∧ x.a = 0 ∧ x.b = 0 ∧ x.neg = false := by
  unfold Nd.right at h
  rw [if_pos hk] at h
  have e := (Nd.eqb_iff _ _).1 h
  rw [e]
  exact ⟨rfl, rfl, rfl, rfl⟩
theorem right_set {x : Nd} {n : Nat} (h : x.right n = true) (hk : x.kind = 2) : x.a = 0 ∧ x.b = 0 ∧ x.neg = false := by
  unfold Nd.right at h
  rw [if_neg (by omega), if_pos hk] at h
  have e := (Nd.eqb_iff _ _).1 h
  rw [e]
  exact ⟨rfl, rfl, rfl⟩
theorem right_two {x : Nd} {n : Nat} (h : x.right n = true) (hk : x.kind = 3 ∨ x.kind = 4 ∨ x.kind = 5) : x.set = noSt ∧ x.neg = false := by
  unfold Nd.right at h
  rw [if_neg (by omega), if_neg (by omega), if_pos hk] at h
  simp only [Bool.and_eq_true] at h
  have e := (Nd.eqb_iff _ _).1 h.1.1
  rw [e]
  exact ⟨rfl, rfl⟩
theorem right_one {x : Nd} {n : Nat} (h : x.right n = true) (hk : x.kind = 6 ∨ x.kind = 7) : x.set = noSt ∧ x.b = 0 ∧ x.neg = false := by
  unfold Nd.right at h
  rw [if_neg (by omega), if_neg (by omega), if_neg (by omega), if_pos hk] at h
  simp only [Bool.and_eq_true] at h
  have e := (Nd.eqb_iff _ _).1 h.1
  rw [e]
  exact ⟨rfl, rfl, rfl⟩
theorem right_look {x : Nd} {n : Nat} (h : x.right n = true) (hk : x.kind = 8) : x.set = noSt ∧ x.b = 0 := by
  unfold Nd.right at h
  rw [if_neg (by omega), if_neg (by omega), if_neg (by omega), if_neg (by omega), if_pos hk] at h
  simp only [Bool.and_eq_true] at h
  have e := (Nd.eqb_iff _ _).1 h.1
  rw [e]
  exact ⟨rfl, rfl⟩
theorem right_kind {x : Nd} {n : Nat} (h : x.right n = true) : x.kind = 0 ∨ x.kind = 1 ∨ x.kind = 2 ∨ x.kind = 3 ∨ x.kind = 4 ∨ x.kind = 5 ∨ x.kind = 6 ∨ x.kind = 7 ∨ x.kind = 8 := by
  unfold Nd.right at h
  by_cases k0 : x.kind = 0 ∨ x.kind = 1
  · omega
  rw [if_neg k0] at h
  by_cases k2 : x.kind = 2
  · omega
  rw [if_neg k2] at h
  by_cases k3 : x.kind = 3 ∨ x.kind = 4 ∨ x.kind = 5
  · omega
  rw [if_neg k3] at h
  by_cases k6 : x.kind = 6 ∨ x.kind = 7
  · omega
  rw [if_neg k6] at h
  by_cases k8 : x.kind = 8
  · omega
  rw [if_neg k8] at h
  cases h
theorem turn_twice {ns : List Nd} (hf : FineN ns) : ∀ (f g : Nat) (i x y : Int), TurnR ns f i x → TurnR ns g x y → y = i
  | 0, _, _, _, _, h, _ => h.elim
  | _ + 1, 0, _, _, _, _, h => h.elim
  | f + 1, g + 1, i, x, y, h, h' => by
    obtain ⟨i0, i1, x0, x1, hk, h2, h3, h45, h67, h8⟩ := h
    obtain ⟨_, _, y0, y1, hk', h2', h3', h45', h67', h8'⟩ := h'
    have hi := (hf.1 i.toNat (by omega)).1
    have hy := (hf.1 y.toNat (by omega)).1
    suffices e : ndAt ns y.toNat = ndAt ns i.toNat by
      have := hf.2 y.toNat i.toNat (by omega) (by omega) e
      omega
    obtain ⟨p, hp⟩ : ∃ p, ndAt ns i.toNat = p := ⟨_, rfl⟩
    obtain ⟨q, hq⟩ : ∃ q, ndAt ns x.toNat = q := ⟨_, rfl⟩
    obtain ⟨r, hr⟩ : ∃ r, ndAt ns y.toNat = r := ⟨_, rfl⟩
    rw [hp, hq] at hk h2 h3 h45 h67 h8
    rw [hq, hr] at hk' h2' h3' h45' h67' h8'
    rw [hp] at hi ⊢
    rw [hr] at hy ⊢
    have hkr : r.kind = p.kind := by rw [hk', hk]
    rw [hk] at h2' h3' h45' h67' h8'
    rcases right_kind hi with k | k | k | k | k | k | k | k | k
    · obtain ⟨a1, a2, a3, a4⟩ := right_bare hi (Or.inl k)
      obtain ⟨b1, b2, b3, b4⟩ := right_bare hy (Or.inl (by omega))
      exact nd_ext hkr (by rw [a1, b1]) (by rw [a2, b2]) (by rw [a3, b3]) (by rw [a4, b4])
    · obtain ⟨a1, a2, a3, a4⟩ := right_bare hi (Or.inr k)
      obtain ⟨b1, b2, b3, b4⟩ := right_bare hy (Or.inr (by omega))
      exact nd_ext hkr (by rw [a1, b1]) (by rw [a2, b2]) (by rw [a3, b3]) (by rw [a4, b4])
    · obtain ⟨a2, a3, a4⟩ := right_set hi k
      obtain ⟨b2, b3, b4⟩ := right_set hy (by omega)
      exact nd_ext hkr (by rw [h2' k, h2 k]) (by rw [a2, b2]) (by rw [a3, b3]) (by rw [a4, b4])
    · obtain ⟨a1, a4⟩ := right_two hi (by omega)
      obtain ⟨b1, b4⟩ := right_two hy (by omega)
      obtain ⟨u1, u2⟩ := h3 k
      obtain ⟨v1, v2⟩ := h3' k
      exact nd_ext hkr (by rw [a1, b1]) (turn_twice hf f g _ _ _ u1 v2) (turn_twice hf f g _ _ _ u2 v1) (by rw [a4, b4])
    · obtain ⟨a1, a4⟩ := right_two hi (by omega)
      obtain ⟨b1, b4⟩ := right_two hy (by omega)
      obtain ⟨u1, u2⟩ := h45 (Or.inl k)
      obtain ⟨v1, v2⟩ := h45' (Or.inl k)
      exact nd_ext hkr (by rw [a1, b1]) (turn_twice hf f g _ _ _ u1 v1) (turn_twice hf f g _ _ _ u2 v2) (by rw [a4, b4])
    · obtain ⟨a1, a4⟩ := right_two hi (by omega)
      obtain ⟨b1, b4⟩ := right_two hy (by omega)
      obtain ⟨u1, u2⟩ := h45 (Or.inr k)
      obtain ⟨v1, v2⟩ := h45' (Or.inr k)
      exact nd_ext hkr (by rw [a1, b1]) (turn_twice hf f g _ _ _ u1 v1) (turn_twice hf f g _ _ _ u2 v2) (by rw [a4, b4])
    · obtain ⟨a1, a3, a4⟩ := right_one hi (by omega)
      obtain ⟨b1, b3, b4⟩ := right_one hy (by omega)
      exact nd_ext hkr (by rw [a1, b1]) (turn_twice hf f g _ _ _ (h67 (Or.inl k)) (h67' (Or.inl k))) (by rw [a3, b3]) (by rw [a4, b4])
    · obtain ⟨a1, a3, a4⟩ := right_one hi (by omega)
      obtain ⟨b1, b3, b4⟩ := right_one hy (by omega)
      exact nd_ext hkr (by rw [a1, b1]) (turn_twice hf f g _ _ _ (h67 (Or.inr k)) (h67' (Or.inr k))) (by rw [a3, b3]) (by rw [a4, b4])
    · obtain ⟨a1, a3⟩ := right_look hi k
      obtain ⟨b1, b3⟩ := right_look hy (by omega)
      obtain ⟨u1, u2⟩ := h8 k
      obtain ⟨v1, v2⟩ := h8' k
      exact nd_ext hkr (by rw [a1, b1]) (by rw [v1, u1]) (by rw [a3, b3]) (by rw [v2, u2])
/-- What is turned round stays so, when nodes are put behind. -/
theorem turn_more {ns : List Nd} (more : List Nd) : ∀ (f : Nat) (i x : Int), TurnR ns f i x → TurnR (ns ++ more) f i x
  | 0, _, _, h => h.elim
  | f + 1, i, x, h => by
    obtain ⟨i0, i1, x0, x1, hk, h2, h3, h45, h67, h8⟩ := h
    have ei : ndAt (ns ++ more) i.toNat = ndAt ns i.toNat := by unfold ndAt; rw [List.getElem?_append_left (by omega)]
    have ex : ndAt (ns ++ more) x.toNat = ndAt ns x.toNat := by unfold ndAt; rw [List.getElem?_append_left (by omega)]
    refine ⟨i0, by rw [List.length_append]; omega, x0, by rw [List.length_append]; omega, ?_⟩
    show _ ∧ _
    rw [ei, ex]
    exact ⟨hk, h2, fun k => ⟨turn_more more f _ _ (h3 k).1, turn_more more f _ _ (h3 k).2⟩, fun k => ⟨turn_more more f _ _ (h45 k).1, turn_more more f _ _ (h45 k).2⟩, fun k => turn_more more f _ _ (h67 k), h8⟩
theorem turn_in {ns : List Nd} : ∀ {f : Nat} {i x : Int}, TurnR ns f i x → 0 ≤ i ∧ i < ns.length ∧ 0 ≤ x ∧ x < ns.length
  | 0, _, _, h => h.elim
  | f + 1, _, _, h => ⟨h.1, h.2.1, h.2.2.1, h.2.2.2.1⟩

end Go.Proofs.Ytoicbahkoejhjaa
