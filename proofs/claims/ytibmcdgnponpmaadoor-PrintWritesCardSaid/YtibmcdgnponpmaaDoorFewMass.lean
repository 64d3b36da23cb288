/- How great a pattern of few nodes is. No program is walked here. -/
import Derived.Test.YtibmcdgnponpmaaDoorFew
import Derived.Test.YtibmcdgnponpmaaDoorLv
import Derived.Test.YtibmcdgnponpmaaDoorMass
namespace Go.Proofs.YtibmcdgnponpmaaDoor
open Go.RowKit
set_option linter.unusedSimpArgs false
set_option linter.unusedVariables false

theorem cfold_sum : ∀ (l : List Int) (a : Int), cfold l a ≤ 2000 → cfold l a = a + l.foldr (· + ·) 0
  | [], a, _ => by show a = a + 0; omega
  | x :: r, a, h => by
    unfold cfold at h ⊢
    split at h
    · omega
    · rename_i hh
      rw [if_neg hh]
      rw [cfold_sum r (a + x) h, List.foldr_cons]; omega
theorem foldr_nonneg {l : List Int} (h : ∀ x ∈ l, 0 ≤ x) : 0 ≤ l.foldr (· + ·) 0 := by
  induction l with
  | nil => exact Int.le_refl _
  | cons x r ih => have := h x (by simp); have := ih (fun y hy => h y (List.mem_cons_of_mem _ hy)); rw [List.foldr_cons]; omega
theorem foldr_mem {l : List Int} (h : ∀ x ∈ l, 0 ≤ x) : ∀ x ∈ l, x ≤ l.foldr (· + ·) 0 := by
  induction l with
  | nil => exact fun x hx => absurd hx List.not_mem_nil
  | cons y r ih =>
    intro x hx
    have h1 := h y (by simp)
    have h2 := foldr_nonneg (fun z hz => h z (List.mem_cons_of_mem _ hz))
    rw [List.foldr_cons]
    rcases List.mem_cons.1 hx with rfl | hx
    · omega
    · have := ih (fun z hz => h z (List.mem_cons_of_mem _ hz)) x hx; omega
theorem cfold_ge : ∀ (l : List Int) (a : Int), (∀ x ∈ l, 0 ≤ x) → a ≤ cfold l a
  | [], a, _ => Int.le_refl _
  | x :: r, a, h => by
    have := h x (by simp)
    unfold cfold
    split
    · omega
    · have := cfold_ge r (a + x) (fun y hy => h y (List.mem_cons_of_mem _ hy)); omega
theorem nodes_ge : ∀ (k : Nat) (m : Int) (t : Tr), 0 ≤ nodesS k m t
  | 0, _, _ => Int.le_refl _
  | k + 1, m, t => by
    by_cases h : m < 1
    · rw [nodesS_deep h]; omega
    · rw [← nodesS_is h, List.drop_zero]
      have := cfold_ge (t.parts.map (nodesS k (m - 1))) 1 (fun x hx => by rw [List.mem_map] at hx; obtain ⟨p, _, rfl⟩ := hx; exact nodes_ge k (m - 1) p)
      omega
theorem few_mass : ∀ (k : Nat) (m : Int) (t : Tr), Tr.Lv k t → nodesS k m t ≤ 2000 → (massS k t : Int) ≤ nodesS k m t
  | 0, _, _, h, _ => h.elim
  | k + 1, m, t, hl, h => by
    by_cases hm : m < 1
    · rw [nodesS_deep hm] at h; omega
    · rw [← nodesS_is hm, List.drop_zero] at h ⊢
      have h0 : ∀ x ∈ t.parts.map (nodesS k (m - 1)), 0 ≤ x := fun x hx => by rw [List.mem_map] at hx; obtain ⟨p, _, rfl⟩ := hx; exact nodes_ge k (m - 1) p
      have hs := cfold_sum _ _ h
      rw [hs] at h ⊢
      have key : ∀ l : List Tr, (∀ p ∈ l, Tr.Lv k p) → (∀ p ∈ l, nodesS k (m - 1) p ≤ 2000) → (((l.map (massS k)).sum : Nat) : Int) ≤ (l.map (nodesS k (m - 1))).foldr (· + ·) 0 := fun l => by
        induction l with
        | nil => exact fun _ _ => Int.le_refl _
        | cons p r ih =>
          intro a b
          have h1 := few_mass k (m - 1) p (a p (by simp)) (b p (by simp))
          have h2 := ih (fun q hq => a q (List.mem_cons_of_mem _ hq)) (fun q hq => b q (List.mem_cons_of_mem _ hq))
          rw [List.map_cons, List.map_cons, List.sum_cons, List.foldr_cons]
          push_cast
          omega
      have := key t.parts hl (fun p hp => by
        have := foldr_mem h0 _ (List.mem_map_of_mem hp)
        omega)
      show ((1 + (t.parts.map (massS k)).sum : Nat) : Int) ≤ _
      push_cast
      omega

end Go.Proofs.YtibmcdgnponpmaaDoor
