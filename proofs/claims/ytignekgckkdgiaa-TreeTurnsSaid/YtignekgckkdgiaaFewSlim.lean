/- A pattern that the laws look at has few parts everywhere. No program is walked here. -/
import Derived.Test.YtignekgckkdgiaaFew
import Derived.Test.YtignekgckkdgiaaSpansAt
import Derived.Test.YtignekgckkdgiaaStrip
namespace Go.Proofs.Ytignekgckkdgiaa
open Go.RowKit

theorem countS_pos {w : World} : ∀ (k : Nat) (m : Int) (t : Tr), Tr.In w k t → 0 ≤ m → 1 ≤ countS k m t
  | 0, _, _, h, _ => h.elim
  | k + 1, m, t, h, hm => by
    rw [show countS (k + 1) m t = if m < 1 then 5000 else cfold (t.parts.map (countS k (m - 1))) 1 from rfl]
    split
    · omega
    · have := cfold_bounds (5000 + 2000 * (m - 1)) (by omega) (t.parts.map (countS k (m - 1))) 1 (by
        intro x hx
        rw [List.mem_map] at hx
        obtain ⟨p, _, rfl⟩ := hx
        exact countS_bounds k (m - 1) p (by omega)) (by omega) (by omega)
      omega
theorem cfold_few : ∀ (l : List Int) (n : Int), (∀ x ∈ l, 1 ≤ x) → cfold l n ≤ 2000 → (l.length : Int) + n ≤ 2000 ∧ ∀ x ∈ l, 1 ≤ n → x ≤ 2000
  | [], n, _, h => by
    have : n ≤ 2000 := h
    exact ⟨by simp; omega, fun x hx => by cases hx⟩
  | x :: r, n, hl, h => by
    have hx := hl x (by simp)
    have h' : (if 2000 < n + x then n + x else cfold r (n + x)) ≤ 2000 := h
    split at h'
    · omega
    · have ih := cfold_few r (n + x) (fun y hy => hl y (List.mem_cons_of_mem _ hy)) h'
      refine ⟨by rw [List.length_cons]; have := ih.1; omega, fun y hy hn => ?_⟩
      rcases List.mem_cons.1 hy with rfl | hy
      · omega
      · exact ih.2 y hy (by omega)
theorem few_slim {w : World} : ∀ (k : Nat) (m : Int) (t : Tr), Tr.In w k t → 0 ≤ m → countS k m t ≤ 2000 → slimS k t
  | 0, _, _, _, _, _ => trivial
  | k + 1, m, t, h, hm, hc => by
    rw [show countS (k + 1) m t = if m < 1 then 5000 else cfold (t.parts.map (countS k (m - 1))) 1 from rfl] at hc
    split at hc
    · omega
    · have hin : ∀ p ∈ t.parts, Tr.In w k p := fun p hp => by
        obtain ⟨j, hj, rfl⟩ := List.getElem_of_mem hp
        exact h.2.2.2 j hj
      obtain ⟨h1, h2⟩ := cfold_few _ 1 (by
        intro x hx
        rw [List.mem_map] at hx
        obtain ⟨p, hp, rfl⟩ := hx
        exact countS_pos k (m - 1) p (hin p hp) (by omega)) hc
      rw [List.length_map] at h1
      exact ⟨by omega, fun p hp => few_slim k (m - 1) p (hin p hp) (by omega) (h2 _ (List.mem_map.2 ⟨p, hp, rfl⟩) (by omega))⟩
theorem slim_strip : ∀ (k : Nat) (a b : Tr), a.strip k = b.strip k → slimS k b → slimS k a
  | 0, _, _, _, _ => trivial
  | k + 1, a, b, h, hs => by
    obtain ⟨_, _, _, _, _, e6, e7⟩ := strip_parts h
    refine ⟨by rw [e6]; exact hs.1, fun p hp => ?_⟩
    obtain ⟨j, hj, rfl⟩ := List.getElem_of_mem hp
    exact slim_strip k _ (b.parts[j]'(by omega)) (strip_at e7 hj (by omega)) (hs.2 _ (List.getElem_mem _))
theorem slim_turn : ∀ (k : Nat) (t : Tr), slimS k t → slimS k (turnS k t)
  | 0, _, _ => trivial
  | k + 1, t, h => by
    refine ⟨by rw [turnS_length]; exact h.1, fun p hp => ?_⟩
    have : p ∈ t.parts.map (turnS k) := by
      rw [turnS_parts] at hp
      split at hp
      · simpa using hp
      · exact hp
    rw [List.mem_map] at this
    obtain ⟨q, hq, rfl⟩ := this
    exact slim_turn k q (h.2 q hq)

end Go.Proofs.Ytignekgckkdgiaa
