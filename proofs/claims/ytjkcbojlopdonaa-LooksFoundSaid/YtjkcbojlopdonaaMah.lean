/- Joined: Lv, Judge. -/
import Derived.Test.YtjkcbojlopdonaaTreeKit
import Derived.Test.YtjkcbojlopdonaaMag
import Derived.Test.YtjkcbojlopdonaaRefFormed
import Derived.Test.YtjkcbojlopdonaaDeepT
import Derived.Test.YtjkcbojlopdonaaTreeSize
import Derived.Test.YtjkcbojlopdonaaCopied
/- Levels; what a formed pattern is, however deep it is looked at. No program is walked here. -/
namespace Go.Proofs.Ytjkcbojlopdonaa
open Go.RowKit
set_option linter.unusedSimpArgs false
set_option linter.unusedVariables false

/-- At most k levels. -/
def Tr.Lv : Nat → Tr → Prop
  | 0, _ => False
  | k + 1, t => ∀ p ∈ t.parts, Tr.Lv k p
theorem Tr.In.lv {w : World} : ∀ (k : Nat) (t : Tr), Tr.In w k t → Tr.Lv k t
  | 0, _, h => h.elim
  | k + 1, t, h => fun p hp => by
    obtain ⟨j, hj, rfl⟩ := List.getElem_of_mem hp
    exact Tr.In.lv k _ (h.2.2.2 j hj)
theorem Tr.Lv.up : ∀ (k : Nat) (t : Tr), Tr.Lv k t → Tr.Lv (k + 1) t
  | 0, _, h => h.elim
  | k + 1, t, h => fun p hp => Tr.Lv.up k p (h p hp)
theorem Tr.Lv.strip : ∀ (k : Nat) (t : Tr), Tr.Lv k t → Tr.Lv k (t.strip k)
  | 0, _, h => h.elim
  | k + 1, t, h => fun p hp => by
    have hp' : p ∈ t.parts.map (Tr.strip k) := hp
    rw [List.mem_map] at hp'
    obtain ⟨q, hq, rfl⟩ := hp'
    exact Tr.Lv.strip k q (h q hq)
theorem all_congr {α : Type} {f g : α → Bool} {l : List α} (h : ∀ p ∈ l, f p = g p) : l.all f = l.all g := by
  induction l with
  | nil => rfl
  | cons a r ih => rw [List.all_cons, List.all_cons, h a (by simp), ih (fun p hp => h p (List.mem_cons_of_mem _ hp))]
theorem formedS_lv : ∀ (k : Nat) (t : Tr), Tr.Lv k t → formedS (k + 1) t = formedS k t
  | 0, _, h => h.elim
  | k + 1, t, h => by
    show (ownF t && t.parts.all (formedS (k + 1))) = (ownF t && t.parts.all (formedS k))
    rw [all_congr (fun p hp => formedS_lv k p (h p hp))]
theorem map_congr' {α β : Type} {f g : α → β} {l : List α} (h : ∀ p ∈ l, f p = g p) : l.map f = l.map g := List.map_congr_left h
theorem deepS_lv : ∀ (k : Nat) (m : Int) (t : Tr), Tr.Lv k t → deepS (k + 1) m t = deepS k m t
  | 0, _, _, h => h.elim
  | k + 1, m, t, h => by
    show (if m < 1 then 1 else 1 + maxl (t.parts.map (deepS (k + 1) (m - 1)))) = (if m < 1 then 1 else 1 + maxl (t.parts.map (deepS k (m - 1))))
    rw [map_congr' (fun p hp => deepS_lv k (m - 1) p (h p hp))]
theorem sizeTo_lv (k : Nat) (t : Tr) (hh : ∀ p ∈ t.parts, sizeS (k + 1) p = sizeS k p) (j : Nat) : sizeTo (k + 1) t j = sizeTo k t j := by
  unfold sizeTo
  rw [map_congr' (fun p hp => hh p (List.mem_of_mem_take hp))]
theorem sizeS_lv : ∀ (k : Nat) (t : Tr), Tr.Lv k t → sizeS (k + 1) t = sizeS k t
  | 0, _, h => h.elim
  | k + 1, t, h => by
    have hh : ∀ p ∈ t.parts, sizeS (k + 1) p = sizeS k p := fun p hp => sizeS_lv k p (h p hp)
    by_cases h7 : t.kind = 7
    · rw [← sizeTo_times (k + 1) t h7, ← sizeTo_times k t h7, sizeTo_lv k t hh]
    · rw [← sizeTo_plain (k + 1) t h7, ← sizeTo_plain k t h7, sizeTo_lv k t hh]
theorem isFormed_lv {k : Nat} {t : Tr} (h : Tr.Lv k t) : isFormed (k + 1) t = isFormed k t := by
  unfold isFormed
  rw [deepS_lv k 40 t h, formedS_lv k t h, sizeS_lv k t h]
theorem isFormed_more {k : Nat} {t : Tr} (h : Tr.Lv k t) : ∀ d, isFormed (k + d) t = isFormed k t ∧ Tr.Lv (k + d) t
  | 0 => ⟨rfl, h⟩
  | d + 1 => by
    have ih := isFormed_more h d
    exact ⟨(isFormed_lv ih.2).trans ih.1, Tr.Lv.up _ _ ih.2⟩
/-- Formed, whatever the levels it is looked at. -/
def FormedT (t : Tr) : Prop := ∃ k, Tr.Lv k t ∧ isFormed k t = true
theorem FormedT.at {t : Tr} (h : FormedT t) {k : Nat} (hk : Tr.Lv k t) : isFormed k t = true := by
  obtain ⟨m, h1, h2⟩ := h
  rcases Nat.le_total k m with q | q
  · have := isFormed_more hk (m - k)
    rw [show k + (m - k) = m by omega] at this
    rw [← this.1]; exact h2
  · have := isFormed_more h1 (k - m)
    rw [show m + (k - m) = k by omega] at this
    rw [this.1]; exact h2
theorem isFormed_deep {k : Nat} {t : Tr} (h : isFormed k t = true) : deepS k 40 t ≤ 40 := by
  unfold isFormed at h
  rw [Bool.and_eq_true] at h
  have := of_decide_eq_true h.1
  omega
/-- A tree that isn't deep lies with few levels. -/
theorem deep_in {w : World} : ∀ (k m : Nat) (t : Tr), Tr.In w k t → deepS k m t ≤ m → Tr.In w m t
  | 0, _, _, h, _ => h.elim
  | k + 1, m, t, h, hd => by
    have h1 : 1 ≤ m := by
      have hd' : (if (m : Int) < 1 then (1 : Int) else 1 + maxl (t.parts.map (deepS k ((m : Int) - 1)))) ≤ m := hd
      split at hd'
      · omega
      · have := maxl_ge (t.parts.map (deepS k ((m : Int) - 1))); omega
    obtain ⟨m', rfl⟩ : ∃ m', m = m' + 1 := ⟨m - 1, by omega⟩
    refine ⟨h.1, h.2.1, h.2.2.1, fun j hj => deep_in k m' _ (h.2.2.2 j hj) ?_⟩
    have := (deep_part (k := k) (j := j) (m := ((m' + 1 : Nat) : Int)) (t := t) hd hj).2
    rw [show ((m' + 1 : Nat) : Int) - 1 = (m' : Int) by omega] at this
    exact this
theorem sumS_room (l : List Int) (h0 : ∀ x ∈ l, 1 ≤ x) (h : sumS l ≤ 1000) : (l.length : Int) ≤ sumS l ∧ ∀ x ∈ l, x ≤ sumS l := by
  have key : ∀ r : List Int, (∀ x ∈ r, 1 ≤ x) → sumS r.reverse ≤ 1000 → (r.length : Int) ≤ sumS r.reverse ∧ ∀ x ∈ r, x ≤ sumS r.reverse := fun r => by
    induction r with
    | nil => exact fun _ _ => ⟨by show (0 : Int) ≤ sumS []; exact Int.le_refl 0, fun x hx => absurd hx List.not_mem_nil⟩
    | cons a r ih =>
      intro h1 h2
      rw [List.reverse_cons, sumS_snoc] at h2 ⊢
      have ha := h1 a (by simp)
      have hc : ¬ 1001 < sumS r.reverse + a := fun q => by rw [cut1001_yes q] at h2; omega
      rw [cut1001_no hc] at h2 ⊢
      have h3 := ih (fun x hx => h1 x (List.mem_cons_of_mem _ hx)) (by omega)
      have hn : (0 : Int) ≤ (r.length : Int) := by omega
      refine ⟨by rw [List.length_cons]; have := h3.1; omega, fun x hx => ?_⟩
      rcases List.mem_cons.1 hx with rfl | hx
      · have := h3.1; omega
      · have := h3.2 x hx; omega
  have := key l.reverse (fun x hx => h0 x (by simpa using hx)) (by simpa using h)
  simpa using this
theorem size_pos : ∀ (k : Nat) (t : Tr), Tr.Lv k t → 1 ≤ sizeS k t
  | 0, _, h => h.elim
  | k + 1, t, h => by
    have hx : 0 ≤ (if t.kind = 7 then sumS (t.parts.map (sizeS k)) * timesS t.lo t.hi else sumS (t.parts.map (sizeS k))) := by
      have h0 : 0 ≤ sumS (t.parts.map (sizeS k)) := by
        have := sizeTo_ge k t t.parts.length
        unfold sizeTo at this
        rwa [List.take_length] at this
      split
      · exact Int.mul_nonneg h0 (by unfold timesS timesLo cut2000; repeat' split <;> omega)
      · exact h0
    show 1 ≤ cut1001 (_ + 1)
    unfold cut1001
    split <;> omega
theorem times_pos (lo hi : Int) : 1 ≤ timesS lo hi := by unfold timesS timesLo cut2000; repeat' split <;> omega
theorem size_sum {k : Nat} {t : Tr} (h : sizeS (k + 1) t ≤ 1000) : sumS (t.parts.map (sizeS k)) ≤ 999 := by
  have h0 : 0 ≤ sumS (t.parts.map (sizeS k)) := by
    have := sizeTo_ge k t t.parts.length
    unfold sizeTo at this
    rwa [List.take_length] at this
  have h' : cut1001 ((if t.kind = 7 then sumS (t.parts.map (sizeS k)) * timesS t.lo t.hi else sumS (t.parts.map (sizeS k))) + 1) ≤ 1000 := h
  have hc : ∀ x : Int, cut1001 (x + 1) ≤ 1000 → x ≤ 999 := fun x hx => by unfold cut1001 at hx; split at hx <;> omega
  have h2 := hc _ h'
  split at h2
  · have hm : sumS (t.parts.map (sizeS k)) * 1 ≤ sumS (t.parts.map (sizeS k)) * timesS t.lo t.hi := Int.mul_le_mul_of_nonneg_left (times_pos _ _) h0
    rw [Int.mul_one] at hm
    omega
  · omega
theorem slim_of_size : ∀ (k : Nat) (t : Tr), Tr.Lv k t → sizeS k t ≤ 1000 → slimS k t
  | 0, _, h, _ => h.elim
  | k + 1, t, hl, h => by
    have hs := size_sum h
    have hr := sumS_room (t.parts.map (sizeS k)) (fun x hx => by
      rw [List.mem_map] at hx
      obtain ⟨p, hp, rfl⟩ := hx
      exact size_pos k p (hl p hp)) (by omega)
    rw [List.length_map] at hr
    exact ⟨by omega, fun p hp => slim_of_size k p (hl p hp) (by have := hr.2 _ (List.mem_map_of_mem hp); omega)⟩
theorem isFormed_slim {k : Nat} {t : Tr} (hl : Tr.Lv k t) (h : isFormed k t = true) : slimS k t := by
  unfold isFormed at h
  rw [Bool.and_eq_true, Bool.and_eq_true] at h
  exact slim_of_size k t hl (by have := of_decide_eq_true h.2.2; omega)

end Go.Proofs.Ytjkcbojlopdonaa

/- parse.judge and tree.Clone. -/
namespace Go.Proofs.Ytjkcbojlopdonaa
open Go.RowKit
set_option linter.unusedSimpArgs false
set_option linter.unusedVariables false

theorem sol_any {w : World} : ∀ (k m : Nat) (t : Tr), Tr.In w m t → Tr.Sol w k t → Tr.In w k t → Tr.Sol w m t
  | _, 0, _, h, _, _ => h.elim
  | 0, _ + 1, _, _, _, h => h.elim
  | k + 1, m + 1, t, h, hs, h' => ⟨hs.1, fun p hp => by
      obtain ⟨j, hj, rfl⟩ := List.getElem_of_mem hp
      exact sol_any k m _ (h.2.2.2 j hj) (hs.2 _ hp) (h'.2.2.2 j hj)⟩
end Go.Proofs.Ytjkcbojlopdonaa
