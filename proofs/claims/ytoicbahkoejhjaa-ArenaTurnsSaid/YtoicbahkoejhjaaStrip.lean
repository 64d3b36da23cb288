/- Patterns without their addresses; patterns turned round; what stays the same. No program is named here. -/
import Derived.Test.YtoicbahkoejhjaaTr
import Derived.Test.YtoicbahkoejhjaaTrSize
import Derived.Test.YtoicbahkoejhjaaSame
import Derived.Test.YtoicbahkoejhjaaFormed
namespace Go.Proofs.Ytoicbahkoejhjaa
open Go.RowKit

def Tr.blank : Tr := .node 0 ⟨0, 0, 0, 0⟩ none 0 0 [] 0 0 false
/-- The pattern alone, wherever it lies. -/
def Tr.strip : Nat → Tr → Tr
  | 0, _ => Tr.blank
  | k + 1, t => .node t.kind t.set none t.parts.length 0 (t.parts.map (Tr.strip k)) t.lo t.hi t.neg
def turnKind (x : Int) : Int := if x = 8 then 9 else if x = 9 then 8 else if x = 10 then 11 else if x = 11 then 10 else x
/-- The pattern turned round. -/
def turnS : Nat → Tr → Tr
  | 0, _ => Tr.blank
  | k + 1, t => .node (turnKind t.kind) t.set none t.parts.length 0 (if t.kind = 3 then (t.parts.map (turnS k)).reverse else t.parts.map (turnS k)) t.lo t.hi t.neg
theorem turnKind_twice (x : Int) : turnKind (turnKind x) = x := by
  unfold turnKind
  by_cases h8 : x = 8
  · subst h8; decide
  by_cases h9 : x = 9
  · subst h9; decide
  by_cases h10 : x = 10
  · subst h10; decide
  by_cases h11 : x = 11
  · subst h11; decide
  rw [if_neg h8, if_neg h9, if_neg h10, if_neg h11, if_neg h8, if_neg h9, if_neg h10, if_neg h11]
theorem turnKind_three (x : Int) : turnKind x = 3 ↔ x = 3 := by
  unfold turnKind
  (repeat' split) <;> omega
theorem strip_parts {k : Nat} {a b : Tr} (h : a.strip (k + 1) = b.strip (k + 1)) : a.kind = b.kind ∧ a.set = b.set ∧ a.lo = b.lo ∧ a.hi = b.hi ∧ a.neg = b.neg ∧ a.parts.length = b.parts.length ∧ a.parts.map (Tr.strip k) = b.parts.map (Tr.strip k) := by
  have h' : Tr.node a.kind a.set none a.parts.length 0 (a.parts.map (Tr.strip k)) a.lo a.hi a.neg = Tr.node b.kind b.set none b.parts.length 0 (b.parts.map (Tr.strip k)) b.lo b.hi b.neg := h
  injection h' with h1 h2 _ h4 _ h6 h7 h8 h9
  exact ⟨h1, h2, h7, h8, h9, h4, h6⟩
theorem strip_strip : ∀ (k : Nat) (t : Tr), (t.strip k).strip k = t.strip k
  | 0, _ => rfl
  | k + 1, t => by
    show Tr.node t.kind t.set none (t.parts.map (Tr.strip k)).length 0 ((t.parts.map (Tr.strip k)).map (Tr.strip k)) t.lo t.hi t.neg = Tr.node t.kind t.set none t.parts.length 0 (t.parts.map (Tr.strip k)) t.lo t.hi t.neg
    rw [List.length_map, List.map_map]
    congr 1
    exact List.map_congr_left fun p _ => strip_strip k p
theorem turnS_strip : ∀ (k : Nat) (t : Tr), turnS k (t.strip k) = turnS k t
  | 0, _ => rfl
  | k + 1, t => by
    have e : (t.parts.map (Tr.strip k)).map (turnS k) = t.parts.map (turnS k) := by
      rw [List.map_map]; exact List.map_congr_left fun p _ => turnS_strip k p
    show Tr.node (turnKind t.kind) t.set none (t.parts.map (Tr.strip k)).length 0 (if t.kind = 3 then ((t.parts.map (Tr.strip k)).map (turnS k)).reverse else (t.parts.map (Tr.strip k)).map (turnS k)) t.lo t.hi t.neg = _
    rw [e, List.length_map]; rfl
theorem turnS_parts (k : Nat) (t : Tr) : (turnS (k + 1) t).parts = if t.kind = 3 then (t.parts.map (turnS k)).reverse else t.parts.map (turnS k) := rfl
theorem turnS_length (k : Nat) (t : Tr) : (turnS (k + 1) t).parts.length = t.parts.length := by rw [turnS_parts]; split <;> simp
theorem turn_strip : ∀ (k : Nat) (t : Tr), (turnS k t).strip k = turnS k t
  | 0, _ => rfl
  | k + 1, t => by
    show Tr.node (turnKind t.kind) t.set none (turnS (k + 1) t).parts.length 0 ((turnS (k + 1) t).parts.map (Tr.strip k)) t.lo t.hi t.neg = Tr.node (turnKind t.kind) t.set none t.parts.length 0 (if t.kind = 3 then (t.parts.map (turnS k)).reverse else t.parts.map (turnS k)) t.lo t.hi t.neg
    rw [turnS_length, turnS_parts]
    congr 1
    have e : (t.parts.map (turnS k)).map (Tr.strip k) = t.parts.map (turnS k) := by rw [List.map_map]; exact List.map_congr_left fun p _ => turn_strip k p
    split
    · rw [List.map_reverse, e]
    · exact e
theorem turn_turn : ∀ (k : Nat) (t : Tr), turnS k (turnS k t) = t.strip k
  | 0, _ => rfl
  | k + 1, t => by
    have e : (t.parts.map (turnS k)).map (turnS k) = t.parts.map (Tr.strip k) := by rw [List.map_map]; exact List.map_congr_left fun p _ => turn_turn k p
    show Tr.node (turnKind (turnKind t.kind)) t.set none (turnS (k + 1) t).parts.length 0 (if turnKind t.kind = 3 then ((turnS (k + 1) t).parts.map (turnS k)).reverse else (turnS (k + 1) t).parts.map (turnS k)) t.lo t.hi t.neg = Tr.node t.kind t.set none t.parts.length 0 (t.parts.map (Tr.strip k)) t.lo t.hi t.neg
    rw [turnKind_twice, turnS_length, turnS_parts]
    congr 1
    by_cases h : t.kind = 3
    · rw [if_pos ((turnKind_three _).2 h), if_pos h, List.map_reverse, List.reverse_reverse, e]
    · rw [if_neg (fun q => h ((turnKind_three _).1 q)), if_neg h, e]

/- Alike. -/
theorem strip_at {k j : Nat} {a b : Tr} (h : a.parts.map (Tr.strip k) = b.parts.map (Tr.strip k)) (ha : j < a.parts.length) (hb : j < b.parts.length) : a.parts[j].strip k = b.parts[j].strip k := by
  have h1 : (a.parts.map (Tr.strip k))[j]'(by simpa using ha) = (b.parts.map (Tr.strip k))[j]'(by simpa using hb) := by simp only [h]
  simpa using h1
theorem deep_part {k j : Nat} {m : Int} {t : Tr} (h : deepS (k + 1) m t ≤ m) (hj : j < t.parts.length) : 1 ≤ m ∧ deepS k (m - 1) t.parts[j] ≤ m - 1 := by
  have h' : (if m < 1 then 1 else 1 + maxl (t.parts.map (deepS k (m - 1)))) ≤ m := h
  have hm : 1 ≤ m := by split at h' <;> omega
  rw [if_neg (by omega)] at h'
  refine ⟨hm, ?_⟩
  have h1 : ∀ (l : List Int) (x : Int), x ∈ l → x ≤ maxl l := by
    intro l x hx
    unfold maxl
    have : ∀ (l : List Int) (a x : Int), (x ∈ l ∨ x ≤ a) → x ≤ l.foldl max a := by
      intro l
      induction l with
      | nil => intro a x h; rcases h with h | h; cases h; exact h
      | cons y r ih =>
        intro a x h
        rw [List.foldl_cons]
        refine ih _ _ ?_
        rcases h with h | h
        · rcases List.mem_cons.1 h with rfl | h
          · exact Or.inr (by omega)
          · exact Or.inl h
        · exact Or.inr (by omega)
    exact this l 0 x (Or.inl hx)
  have h2 := h1 (t.parts.map (deepS k (m - 1))) (deepS k (m - 1) t.parts[j]) (List.mem_map.2 ⟨_, List.getElem_mem hj, rfl⟩)
  omega
/-- Two that are the same pattern are alike, if they aren't too deep. -/
theorem sameS_strip : ∀ (k : Nat) (m : Int) (a b : Tr), (0 < k) → a.strip k = b.strip k → 1 ≤ m → (deepS k m a ≤ m) → (∀ w : World, Tr.In w k a → sameS k (m + 1) a b = true)
  | 0, _, _, _, h, _, _, _ => absurd h (Nat.lt_irrefl 0)
  | k + 1, m, a, b, _, he, hm, hd => fun w hi => by
    obtain ⟨e1, e2, e3, e4, e5, e6, e7⟩ := strip_parts he
    refine sameS_yes (by omega) (own_yes e1 (by rw [e2]; exact St.eqb_self _) e3 e4 e5 e6) ?_ e6
    have hall : ∀ j, j ≤ a.parts.length → sameTo k (m + 1 - 1) a b j = true := by
      intro j
      induction j with
      | zero => intro _; rfl
      | succ j ih =>
        intro hj
        obtain ⟨hm1, hdp⟩ := deep_part hd (show j < a.parts.length by omega)
        refine sameTo_succ (by omega) e6 (ih (by omega)) ?_
        have hip := hi.2.2.2 j (by omega)
        cases k with
        | zero => exact hip.elim
        | succ k =>
          have hm2 : 2 ≤ m := by
            have h0 : (if m - 1 < 1 then 1 else 1 + maxl (a.parts[j].parts.map (deepS k (m - 1 - 1)))) ≤ m - 1 := hdp
            split at h0 <;> omega
          have := sameS_strip (k + 1) (m - 1) a.parts[j] (b.parts[j]'(by omega)) (by omega) (strip_at e7 (by omega) (by omega)) (by omega) hdp w hip
          rw [show m - 1 + 1 = m + 1 - 1 from by omega] at this
          exact this
    exact hall _ (Nat.le_refl _)

/- Formed, deep, great: no address has a say, and turning leaves them. -/
theorem ownF_congr {a b : Tr} (h1 : a.kind = b.kind) (h2 : a.set = b.set) (h3 : a.lo = b.lo) (h4 : a.hi = b.hi) (h5 : a.neg = b.neg) (h6 : a.parts.length = b.parts.length) : ownF a = ownF b := by
  unfold ownF
  apply decide_eq_decide.2
  unfold cntF timesF
  rw [h1, h2, h3, h4, h5, h6]
theorem map_strip {α : Type} {k : Nat} {f : Tr → α} (hf : ∀ a b : Tr, a.strip k = b.strip k → f a = f b) {l m : List Tr} (h : l.map (Tr.strip k) = m.map (Tr.strip k)) : l.map f = m.map f := by
  induction l generalizing m with
  | nil => cases m with
    | nil => rfl
    | cons => simp at h
  | cons x r ih => cases m with
    | nil => simp at h
    | cons y s =>
      simp only [List.map_cons, List.cons.injEq] at h ⊢
      exact ⟨hf _ _ h.1, ih h.2⟩
theorem all_map (f : Tr → Bool) (l : List Tr) : l.all f = (l.map f).all id := by rw [List.all_map]; rfl
theorem formedS_congr : ∀ (k : Nat) (a b : Tr), a.strip k = b.strip k → formedS k a = formedS k b
  | 0, _, _, _ => rfl
  | k + 1, a, b, h => by
    obtain ⟨e1, e2, e3, e4, e5, e6, e7⟩ := strip_parts h
    show (ownF a && a.parts.all (formedS k)) = (ownF b && b.parts.all (formedS k))
    rw [ownF_congr e1 e2 e3 e4 e5 e6, all_map, all_map, map_strip (formedS_congr k) e7]
theorem sizeS_congr : ∀ (k : Nat) (a b : Tr), a.strip k = b.strip k → sizeS k a = sizeS k b
  | 0, _, _, _ => rfl
  | k + 1, a, b, h => by
    obtain ⟨e1, e2, e3, e4, e5, e6, e7⟩ := strip_parts h
    show cut1001 (_ + 1) = cut1001 (_ + 1)
    rw [map_strip (sizeS_congr k) e7, e1, e3, e4]
theorem deepS_congr : ∀ (k : Nat) (m : Int) (a b : Tr), a.strip k = b.strip k → deepS k m a = deepS k m b
  | 0, _, _, _, _ => rfl
  | k + 1, m, a, b, h => by
    obtain ⟨e1, e2, e3, e4, e5, e6, e7⟩ := strip_parts h
    show (if m < 1 then 1 else 1 + maxl (a.parts.map (deepS k (m - 1)))) = (if m < 1 then 1 else 1 + maxl (b.parts.map (deepS k (m - 1))))
    rw [map_strip (deepS_congr k (m - 1)) e7]
theorem turnKind_range (x : Int) : (0 ≤ turnKind x ∧ turnKind x ≤ 11) ↔ (0 ≤ x ∧ x ≤ 11) := by unfold turnKind; (repeat' split) <;> omega
theorem turnKind_low (x : Int) (h : turnKind x < 8 ∨ x < 8) : turnKind x = x := by unfold turnKind at h ⊢; (repeat' split) <;> (repeat' split at h) <;> omega
theorem turnKind_look (x : Int) : (turnKind x = 8 ∨ turnKind x = 9) ↔ (x = 8 ∨ x = 9) := by unfold turnKind; (repeat' split) <;> omega
theorem turnKind_is {x c : Int} (h : c < 8) : turnKind x = c ↔ x = c := by unfold turnKind; (repeat' split) <;> omega
theorem turn_kind (k : Nat) (t : Tr) : (turnS (k + 1) t).kind = turnKind t.kind := rfl
theorem turn_own (k : Nat) (t : Tr) : ownF (turnS (k + 1) t) = ownF t := by
  have hl : (turnS (k + 1) t).parts.length = t.parts.length := turnS_length k t
  have hk : (turnS (k + 1) t).kind = turnKind t.kind := rfl
  have i2 := turnKind_is (x := t.kind) (c := 2) (by omega)
  have i3 := turnKind_is (x := t.kind) (c := 3) (by omega)
  have i4 := turnKind_is (x := t.kind) (c := 4) (by omega)
  have i5 := turnKind_is (x := t.kind) (c := 5) (by omega)
  have i6 := turnKind_is (x := t.kind) (c := 6) (by omega)
  have i7 := turnKind_is (x := t.kind) (c := 7) (by omega)
  have il := turnKind_look t.kind
  have ir := turnKind_range t.kind
  have hc : cntF (turnS (k + 1) t) = cntF t := by
    unfold cntF
    rw [hl, hk]
    have q1 : (turnKind t.kind = 3 ∨ turnKind t.kind = 4 ∨ turnKind t.kind = 5) ↔ (t.kind = 3 ∨ t.kind = 4 ∨ t.kind = 5) := by rw [i3, i4, i5]
    have q2 : (turnKind t.kind = 6 ∨ turnKind t.kind = 7 ∨ turnKind t.kind = 8 ∨ turnKind t.kind = 9) ↔ (t.kind = 6 ∨ t.kind = 7 ∨ t.kind = 8 ∨ t.kind = 9) := by rw [i6, i7, il]
    simp only [q1, q2]
  unfold ownF
  rw [hc, hl, hk]
  have q3 : (turnKind t.kind = 8 ∨ turnKind t.kind = 9 ∨ (turnS (k + 1) t).neg = false) ↔ (t.kind = 8 ∨ t.kind = 9 ∨ t.neg = false) := by
    rw [← or_assoc, il, or_assoc]; exact Iff.rfl
  apply decide_eq_decide.2
  rw [ir, i2, q3, i7]
  exact Iff.rfl
theorem all_rev (f : Tr → Bool) (l : List Tr) : l.reverse.all f = l.all f := by simp
theorem turn_formed : ∀ (k : Nat) (t : Tr), formedS k (turnS k t) = formedS k t
  | 0, _ => rfl
  | k + 1, t => by
    show (ownF (turnS (k + 1) t) && (turnS (k + 1) t).parts.all (formedS k)) = (ownF t && t.parts.all (formedS k))
    rw [turn_own]
    congr 1
    have e : (t.parts.map (turnS k)).all (formedS k) = t.parts.all (formedS k) := by
      rw [List.all_map, Bool.eq_iff_iff, List.all_eq_true, List.all_eq_true]
      exact ⟨fun h p hp => by rw [← turn_formed k p]; exact h p hp, fun h p hp => by show formedS k (turnS k p) = true; rw [turn_formed k p]; exact h p hp⟩
    rw [turnS_parts]
    split
    · rw [all_rev, e]
    · exact e
theorem sumS_rev (l : List Int) (h : ∀ x ∈ l, 0 ≤ x) : sumS l.reverse = sumS l := by
  unfold sumS
  refine List.Perm.foldl_eq' (List.reverse_perm l) ?_ 0
  intro x hx y hy z
  have := h x (by simpa using hx)
  have := h y (by simpa using hy)
  unfold cut1001
  (repeat' split) <;> omega
theorem maxl_rev (l : List Int) : maxl l.reverse = maxl l := by
  unfold maxl
  refine List.Perm.foldl_eq' (List.reverse_perm l) ?_ 0
  intro x _ y _ z
  omega
theorem turn_size : ∀ (k : Nat) (t : Tr), sizeS k (turnS k t) = sizeS k t
  | 0, _ => rfl
  | k + 1, t => by
    have e : sumS ((turnS (k + 1) t).parts.map (sizeS k)) = sumS (t.parts.map (sizeS k)) := by
      have e1 : (t.parts.map (turnS k)).map (sizeS k) = t.parts.map (sizeS k) := by rw [List.map_map]; exact List.map_congr_left fun p _ => turn_size k p
      rw [turnS_parts]
      split
      · rw [List.map_reverse, e1]
        exact sumS_rev _ (fun x hx => by rw [List.mem_map] at hx; obtain ⟨p, _, rfl⟩ := hx; exact sizeS_ge k p)
      · rw [e1]
    show cut1001 ((if turnKind t.kind = 7 then sumS ((turnS (k + 1) t).parts.map (sizeS k)) * timesS t.lo t.hi else sumS ((turnS (k + 1) t).parts.map (sizeS k))) + 1) = cut1001 ((if t.kind = 7 then sumS (t.parts.map (sizeS k)) * timesS t.lo t.hi else sumS (t.parts.map (sizeS k))) + 1)
    rw [e]
    simp only [turnKind_is (show (7 : Int) < 8 by omega)]
theorem turn_deep : ∀ (k : Nat) (m : Int) (t : Tr), deepS k m (turnS k t) = deepS k m t
  | 0, _, _ => rfl
  | k + 1, m, t => by
    have e : maxl ((turnS (k + 1) t).parts.map (deepS k (m - 1))) = maxl (t.parts.map (deepS k (m - 1))) := by
      have e1 : (t.parts.map (turnS k)).map (deepS k (m - 1)) = t.parts.map (deepS k (m - 1)) := by rw [List.map_map]; exact List.map_congr_left fun p _ => turn_deep k (m - 1) p
      rw [turnS_parts]
      split
      · rw [List.map_reverse, e1, maxl_rev]
      · rw [e1]
    show (if m < 1 then 1 else 1 + maxl ((turnS (k + 1) t).parts.map (deepS k (m - 1)))) = (if m < 1 then 1 else 1 + maxl (t.parts.map (deepS k (m - 1))))
    rw [e]

end Go.Proofs.Ytoicbahkoejhjaa
