/- A formed pattern has at most 1000 nodes. -/
import Derived.Test.YtjkcbojlopdonaaMah
namespace Go.Proofs.Ytjkcbojlopdonaa
open Go.RowKit
set_option linter.unusedSimpArgs false
set_option linter.unusedVariables false

/- A formed pattern has at most 1000 nodes. -/
theorem sumS_mass (k : Nat) : ∀ (l : List Tr), (∀ p ∈ l, 1 ≤ sizeS k p) → (∀ p ∈ l, sizeS k p ≤ 1000 → (massS k p : Int) ≤ sizeS k p) → sumS (l.map (sizeS k)) ≤ 1000 → ((l.map (massS k)).sum : Int) ≤ sumS (l.map (sizeS k)) := by
  have key : ∀ r : List Tr, (∀ p ∈ r, 1 ≤ sizeS k p) → (∀ p ∈ r, sizeS k p ≤ 1000 → (massS k p : Int) ≤ sizeS k p) → sumS (r.map (sizeS k)).reverse ≤ 1000 → ((r.map (massS k)).sum : Int) ≤ sumS (r.map (sizeS k)).reverse := fun r => by
    induction r with
    | nil => exact fun _ _ _ => by show (0 : Int) ≤ sumS []; exact Int.le_refl 0
    | cons a r ih =>
      intro h0 h1 h2
      have em : ((a :: r).map (sizeS k)).reverse = (r.map (sizeS k)).reverse ++ [sizeS k a] := by rw [List.map_cons, List.reverse_cons]
      rw [em, sumS_snoc] at h2 ⊢
      have hge : 0 ≤ sumS (r.map (sizeS k)).reverse := sumS_ge _ (fun x hx => by
        rw [List.mem_reverse, List.mem_map] at hx
        obtain ⟨p, _, rfl⟩ := hx
        exact sizeS_ge k p)
      have ha := h0 a (by simp)
      have hc : ¬ 1001 < sumS (r.map (sizeS k)).reverse + sizeS k a := fun q => by rw [cut1001_yes q] at h2; omega
      rw [cut1001_no hc] at h2 ⊢
      have h3 := ih (fun p hp => h0 p (List.mem_cons_of_mem _ hp)) (fun p hp => h1 p (List.mem_cons_of_mem _ hp)) (by omega)
      have h4 := h1 a (by simp) (by omega)
      rw [List.map_cons, List.sum_cons]
      omega
  intro l h0 h1 h2
  have h5 : (l.reverse.map (sizeS k)).reverse = l.map (sizeS k) := by rw [List.map_reverse, List.reverse_reverse]
  have h6 : (l.reverse.map (massS k)).sum = (l.map (massS k)).sum := by rw [List.map_reverse, List.sum_reverse]
  have := key l.reverse (fun p hp => h0 p (by simpa using hp)) (fun p hp => h1 p (by simpa using hp)) (by rw [h5]; exact h2)
  rw [h5, h6] at this
  exact this
theorem mass_size : ∀ (k : Nat) (t : Tr), Tr.Lv k t → sizeS k t ≤ 1000 → (massS k t : Int) ≤ sizeS k t
  | 0, _, h, _ => h.elim
  | k + 1, t, hl, h => by
    have hs := size_sum h
    have h0 : 0 ≤ sumS (t.parts.map (sizeS k)) := by
      have := sizeTo_ge k t t.parts.length
      unfold sizeTo at this
      rwa [List.take_length] at this
    have h1 := sumS_mass k t.parts (fun p hp => size_pos k p (hl p hp)) (fun p hp q => mass_size k p (hl p hp) q) (by omega)
    have h' : cut1001 ((if t.kind = 7 then sumS (t.parts.map (sizeS k)) * timesS t.lo t.hi else sumS (t.parts.map (sizeS k))) + 1) ≤ 1000 := h
    have h2 : sumS (t.parts.map (sizeS k)) + 1 ≤ cut1001 ((if t.kind = 7 then sumS (t.parts.map (sizeS k)) * timesS t.lo t.hi else sumS (t.parts.map (sizeS k))) + 1) := by
      have hm : sumS (t.parts.map (sizeS k)) * 1 ≤ sumS (t.parts.map (sizeS k)) * timesS t.lo t.hi := Int.mul_le_mul_of_nonneg_left (times_pos _ _) h0
      rw [Int.mul_one] at hm
      unfold cut1001 at h' ⊢
      (repeat' split at h') <;> (repeat' split) <;> omega
    show ((1 + (t.parts.map (massS k)).sum : Nat) : Int) ≤ _
    have h3 : sizeS (k + 1) t = cut1001 ((if t.kind = 7 then sumS (t.parts.map (sizeS k)) * timesS t.lo t.hi else sumS (t.parts.map (sizeS k))) + 1) := rfl
    rw [h3]
    omega
theorem deep_lv : ∀ (k m : Nat) (t : Tr), Tr.Lv k t → deepS k m t ≤ m → Tr.Lv m t
  | 0, _, _, h, _ => h.elim
  | k + 1, m, t, h, hd => by
    have h1 : 1 ≤ m := by
      rcases Nat.eq_zero_or_pos m with q | q
      · subst q
        have : deepS (k + 1) ((0 : Nat) : Int) t = 1 := by show (if ((0 : Nat) : Int) < 1 then 1 else _) = 1; rw [if_pos (by decide)]
        omega
      · exact q
    obtain ⟨m', rfl⟩ : ∃ m', m = m' + 1 := ⟨m - 1, by omega⟩
    intro p hp
    obtain ⟨j, hj, rfl⟩ := List.getElem_of_mem hp
    have := (deep_part hd hj).2
    exact deep_lv k m' _ (h _ hp) (by have e : ((m' + 1 : Nat) : Int) - 1 = (m' : Int) := by omega
                                      rw [e] at this; exact this)
theorem FormedT.lv40 {t : Tr} (h : FormedT t) : Tr.Lv 40 t ∧ isFormed 40 t = true := by
  obtain ⟨k, hl, hf⟩ := id h
  have h40 : Tr.Lv 40 t := deep_lv k 40 t hl (isFormed_deep hf)
  exact ⟨h40, h.at h40⟩
end Go.Proofs.Ytjkcbojlopdonaa
