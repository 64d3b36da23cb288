/- package formula: mathematics of Formed. No program is walked here. -/
import Derived.Test.YtehokjaojanieaaFoN
namespace Go.Proofs.Ytehokjaojanieaa
open Go.RowKit
set_option linter.unusedVariables false
set_option linter.unusedSimpArgs false

theorem srt_sub {α : Type} {R : α → α → Prop} (hi : ∀ a, ¬ R a a) (ht : ∀ a b c, R a b → R b c → R a c) : ∀ (m l : List α), l.Pairwise R → m.Pairwise R → (∀ x ∈ l, x ∈ m) → l.Sublist m
  | [], l, _, _, h => by
    cases l with
    | nil => exact List.Sublist.slnil
    | cons x r => exact absurd (h x (by simp)) (by simp)
  | y :: m, [], _, _, _ => List.nil_sublist _
  | y :: m, x :: l, hl, hm, h => by
    rw [List.pairwise_cons] at hl hm
    rcases List.mem_cons.1 (h x (by simp)) with e | hx
    · subst e
      refine List.Sublist.cons_cons x (srt_sub hi ht m l hl.2 hm.2 (fun z hz => ?_))
      rcases List.mem_cons.1 (h z (by simp [hz])) with e | h'
      · have := hl.1 z hz; rw [e] at this; exact absurd this (hi _)
      · exact h'
    · refine List.Sublist.cons y (srt_sub hi ht m (x :: l) (List.pairwise_cons.2 hl) hm.2 (fun z hz => ?_))
      rcases List.mem_cons.1 (h z hz) with e | h'
      · subst e
        rcases List.mem_cons.1 hz with e | hz'
        · rw [e]; exact hx
        · exact absurd (ht _ _ _ (hm.1 x hx) (hl.1 z hz')) (hi _)
      · exact h'
theorem sub_of_less {l m : Fm} (hl : l.Pairwise (fun p q => lessS p q = true)) (hm : m.Pairwise (fun p q => lessS p q = true)) (h : ∀ x ∈ l, x ∈ m) : l.Sublist m :=
  srt_sub (R := fun p q => lessS p q = true) (fun a h => by rw [less_irr] at h; cases h) (fun a b c h h' => less_trans h h') m l hl hm h
/-- As far as place i the parts rise and stand in order. -/
def okTo (f : Fm) (i : Nat) : Prop := ∀ j, j < i → upS (-1) (paAt f j) = true ∧ (j = 0 ∨ lessS (paAt f (j - 1)) (paAt f j) = true)
theorem ok_all {f : Fm} (h : okTo f f.length) : f.Pairwise (fun p q => lessS p q = true) ∧ ∀ p ∈ f, Up p ∧ ∀ x ∈ p, 0 ≤ x := by
  constructor
  · refine up_of_steps (R := fun p q => lessS p q = true) (fun a b c h h' => less_trans h h') f (fun k hk => ?_)
    have := (h (k + 1) hk).2
    rw [Nat.add_sub_cancel, paAt_lt hk, paAt_lt (by omega)] at this
    rcases this with h | h
    · omega
    · exact h
  · intro p hp
    obtain ⟨j, hj, rfl⟩ := List.mem_iff_getElem.1 hp
    have := (h j hj).1
    rw [paAt_lt hj] at this
    obtain ⟨a, b⟩ := (up_iff _ _).1 this
    exact ⟨a, fun x hx => by have := b x hx; omega⟩
theorem fmd_ok {f : Fm} (h : Fmd f) : okTo f f.length := by
  intro j hj
  constructor
  · rw [up_iff, paAt_lt hj]
    obtain ⟨a, b⟩ := h.up _ (List.getElem_mem hj)
    exact ⟨a, fun x hx => by have := b x hx; omega⟩
  · by_cases h0 : j = 0
    · exact .inl h0
    · right
      rw [paAt_lt hj, paAt_lt (by omega)]
      exact List.pairwise_iff_getElem.1 h.sorted (j - 1) j (by omega) hj (by omega)
/-- One that isn't so at a place isn't formed. -/
theorem not_fm {f : Fm} {i : Nat} (hi : i < f.length) (h : ¬ (upS (-1) (paAt f i) = true ∧ (i = 0 ∨ lessS (paAt f (i - 1)) (paAt f i) = true))) : fmS f = false := by
  rw [← Bool.not_eq_true]
  intro e
  exact h (fmd_ok (fm_of e) i hi)
theorem fm_count {f : Fm} (h : f.Pairwise (fun p q => lessS p q = true)) : f.length ≤ f.flatten.length + 1 := by
  have key : ∀ (f : Fm), (∀ p ∈ f, 0 < p.length) → f.length ≤ f.flatten.length := by
    intro f
    induction f with
    | nil => intro _; simp
    | cons p f ih =>
      intro hf
      have h1 := hf p (by simp)
      have h2 := ih (fun q hq => hf q (by simp [hq]))
      rw [List.flatten_cons, List.length_append, List.length_cons]; omega
  cases f with
  | nil => simp
  | cons p f =>
    rw [List.pairwise_cons] at h
    have := key f (fun q hq => by
      have h1 := h.1 q hq
      cases q with
      | nil =>
        unfold lessS at h1
        by_cases e : p.length = 0
        · rw [if_pos (by simpa using e)] at h1
          have : p = [] := List.eq_nil_of_length_eq_zero e
          subst this; cases h1
        · rw [if_neg (by simpa using e)] at h1; simp at h1
      | cons z r => simp)
    rw [List.flatten_cons, List.length_append, List.length_cons]; omega
theorem part_le {f : Fm} {p : List Int} (h : p ∈ f) : p.length ≤ f.flatten.length := (List.sublist_flatten_of_mem h).length_le
/-- The least of f's parts are as many as f's just if f is formed. -/
theorem least_fm {f : Fm} {ps r : List Pt} (hps : ps.map (·.l) = f) (hs : f.Pairwise (fun p q => lessS p q = true)) (h : LeastOf ps r) : fmS f = decide (r.length = f.length) := by
  have hin : ∀ p ∈ r.map (·.l), p ∈ f := fun p hp => by
    obtain ⟨q, hq, rfl⟩ := List.mem_map.1 hp
    obtain ⟨x, hx, e⟩ := h.2.1 q hq
    rw [← hps, ← e]; exact List.mem_map.2 ⟨x, hx, rfl⟩
  have hsub := sub_of_less h.1.sorted hs hin
  rw [Bool.eq_iff_iff, decide_eq_true_eq]
  constructor
  · intro e
    have := fm_unique h.1 (fm_of e) (fun on => by rw [h.holds on, hps])
    rw [← this]; simp
  · intro e
    have : r.map (·.l) = f := hsub.eq_of_length (by rw [List.length_map]; exact e)
    rw [← this]; exact fm_mk h.1
theorem least_most {f : Fm} {ps : List Pt} (hps : ps.map (·.l) = f) (hs : f.Pairwise (fun p q => lessS p q = true)) : ∀ r : Fm, Fmd r → (∀ p ∈ r, ∃ x ∈ ps, x.l = p) → r.length ≤ f.length := fun r hr hp =>
  (sub_of_less hr.sorted hs (fun p h => by
    obtain ⟨x, hx, e⟩ := hp p h
    rw [← hps, ← e]; exact List.mem_map.2 ⟨x, hx, rfl⟩)).length_le

end Go.Proofs.Ytehokjaojanieaa
