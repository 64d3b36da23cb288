/- The text of a set's ranges is the text of the set. No program is walked here. -/
import Derived.Test.YtibmcdgnponpmaaDoorTextS
import Derived.Test.YtibmcdgnponpmaaDoorRanges
namespace Go.Proofs.YtibmcdgnponpmaaDoor
open Go.RowKit
set_option linter.unusedSimpArgs false
set_option linter.unusedVariables false

def rgT (p : Nat × Nat) : ByteArray := xT p.1 ++ (if p.1 < p.2 then dxT p.2 else noT)
def rgsT : List (Nat × Nat) → ByteArray
  | [] => noT
  | p :: r => rgT p ++ rgsT r
theorem rgsT_snoc : ∀ (R : List (Nat × Nat)) (p : Nat × Nat), rgsT (R ++ [p]) = rgsT R ++ rgT p
  | [], p => by show rgT p ++ noT = noT ++ rgT p; rw [app_no, no_app]
  | q :: r, p => by rw [List.cons_append, rgsT, rgsT, rgsT_snoc r p, app_app]
theorem endOf_is {s : St} : ∀ (f b e : Nat), b ≤ e → e < b + f → e ≤ 255 → (∀ x, b ≤ x → x ≤ e → s.has x = true) → (e = 255 ∨ s.has (e + 1) = false) → endOf s f b = e
  | 0, b, e, h1, h2, _, _, _ => absurd h2 (by omega)
  | f + 1, b, e, h1, h2, h3, h4, h5 => by
    by_cases q : b = e
    · subst q
      refine endOf_stop ?_
      rintro ⟨q1, q2⟩
      rcases h5 with h5 | h5
      · omega
      · rw [h5] at q2; cases q2
    · rw [endOf_next (by omega) (h4 (b + 1) (by omega) (by omega))]
      exact endOf_is f (b + 1) e (by omega) (by omega) h3 (fun x a b => h4 x (by omega) b) h5
theorem range_split (b e n : Nat) (h : b ≤ e + 1) (hn : e + 1 ≤ b + n) : List.range' b n = List.range' b (e + 1 - b) ++ List.range' (e + 1) (b + n - (e + 1)) := by
  have := List.range'_append_1 (s := b) (m := e + 1 - b) (n := b + n - (e + 1))
  rw [show b + (e + 1 - b) = e + 1 by omega, show e + 1 - b + (b + n - (e + 1)) = n by omega] at this
  exact this.symm
/-- The starts of what comes later lie above. -/
theorem gap_above {R : List (Nat × Nat)} {p : Nat × Nat} (hok : ∀ q ∈ p :: R, q.1 ≤ q.2 ∧ q.2 < 256) (hg : ∀ (i : Nat) (a b : Nat × Nat), (p :: R)[i]? = some a → (p :: R)[i + 1]? = some b → a.2 + 1 < b.1) : ∀ q ∈ R, p.2 + 1 < q.1 := by
  induction R generalizing p with
  | nil => exact fun q hq => absurd hq List.not_mem_nil
  | cons r R ih =>
    have h0 := hg 0 p r rfl rfl
    have ih' := ih (p := r) (fun q hq => hok q (List.mem_cons_of_mem _ hq)) (fun i a b ha hb => hg (i + 1) a b ha hb)
    have hr := hok r (by simp)
    intro q hq
    rcases List.mem_cons.1 hq with rfl | hq
    · exact h0
    · have := ih' q hq; omega
theorem rgs_text {s : St} : ∀ (f b : Nat) (R : List (Nat × Nat)), 256 < b + f → R.flatMap rg = (List.range' b (256 - b)).filter (fun x => s.has x) → (∀ p ∈ R, p.1 ≤ p.2 ∧ p.2 < 256) →
    (∀ (i : Nat) (a c : Nat × Nat), R[i]? = some a → R[i + 1]? = some c → a.2 + 1 < c.1) → rgsT R = clsFrom s f b := by
  intro f
  have none : ∀ (b : Nat) (R : List (Nat × Nat)), 256 ≤ b → R.flatMap rg = (List.range' b (256 - b)).filter (fun x => s.has x) → (∀ p ∈ R, p.1 ≤ p.2 ∧ p.2 < 256) → R = [] := by
    intro b R hb h hok
    rw [show 256 - b = 0 by omega] at h
    cases R with
    | nil => rfl
    | cons p r =>
      have hp := hok p (by simp)
      have := mem_rg p hp.1
      have hm : p.2 ∈ (p :: r).flatMap rg := List.mem_flatMap.2 ⟨p, by simp, this⟩
      rw [h] at hm
      exact absurd hm List.not_mem_nil
  induction f with
  | zero =>
    intro b R hb h hok hg
    rw [none b R (by omega) h hok]; rfl
  | succ f ih =>
    intro b R hb h hok hg
    by_cases hge : 256 ≤ b
    · rw [none b R hge h hok, cls_end hge]; rfl
    have e1 : List.range' b (256 - b) = b :: List.range' (b + 1) (256 - (b + 1)) := by
      rw [show 256 - b = (256 - (b + 1)) + 1 by omega, List.range'_succ]
    cases hv : s.has b with
    | false =>
      rw [cls_no (by omega) hv]
      refine ih (b + 1) R (by omega) ?_ hok hg
      rw [h, e1, List.filter_cons_of_neg (by simp [hv])]
    | true =>
      have h' := h
      rw [e1, List.filter_cons_of_pos (by simp [hv])] at h'
      cases R with
      | nil => exact absurd h'.symm (List.cons_ne_nil _ _)
      | cons p r =>
        have hp := hok p (by simp)
        have hab := gap_above hok hg
        rw [List.flatMap_cons] at h h'
        have erg : rg p = p.1 :: List.range' (p.1 + 1) (p.2 - p.1) := by
          unfold rg
          rw [show p.2 + 1 - p.1 = (p.2 - p.1) + 1 by omega, List.range'_succ]
        have hb1 : p.1 = b := by
          rw [erg, List.cons_append] at h'
          exact (List.cons.inj h').1
        have hmem : ∀ x, (x ∈ rg p ∨ x ∈ r.flatMap rg) ↔ (b ≤ x ∧ x < 256 ∧ s.has x = true) := by
          intro x
          have : x ∈ rg p ++ r.flatMap rg ↔ x ∈ (List.range' b (256 - b)).filter (fun x => s.has x) := by rw [h]
          rw [List.mem_append, List.mem_filter, List.mem_range'_1] at this
          rw [this]
          constructor
          · rintro ⟨⟨q1, q2⟩, q3⟩; exact ⟨q1, by omega, q3⟩
          · rintro ⟨q1, q2, q3⟩; exact ⟨⟨q1, by omega⟩, q3⟩
        have hrg : ∀ x, x ∈ rg p ↔ b ≤ x ∧ x ≤ p.2 := by
          intro x
          unfold rg
          rw [List.mem_range'_1, hb1]; omega
        have hhas : ∀ x, b ≤ x → x ≤ p.2 → s.has x = true := fun x a c => ((hmem x).1 (Or.inl ((hrg x).2 ⟨a, c⟩))).2.2
        have hstop : p.2 = 255 ∨ s.has (p.2 + 1) = false := by
          by_cases q : p.2 = 255
          · exact Or.inl q
          · right
            cases hq : s.has (p.2 + 1) with
            | false => rfl
            | true =>
              have := (hmem (p.2 + 1)).2 ⟨by omega, by omega, hq⟩
              rcases this with this | this
              · have := (hrg _).1 this; omega
              · obtain ⟨q', hq', hin⟩ := List.mem_flatMap.1 this
                have h1 := hab q' hq'
                unfold rg at hin
                rw [List.mem_range'_1] at hin
                omega
        have hE : endOf s 256 b = p.2 := endOf_is 256 b p.2 (by omega) (by omega) (by omega) hhas hstop
        have hrest : r.flatMap rg = (List.range' (p.2 + 1) (256 - (p.2 + 1))).filter (fun x => s.has x) := by
          have hs := range_split b p.2 (256 - b) (by omega) (by omega)
          rw [show b + (256 - b) - (p.2 + 1) = 256 - (p.2 + 1) by omega] at hs
          rw [hs, List.filter_append] at h
          have hall : (List.range' b (p.2 + 1 - b)).filter (fun x => s.has x) = rg p := by
            unfold rg
            rw [hb1, List.filter_eq_self]
            intro x hx
            rw [List.mem_range'_1] at hx
            exact hhas x hx.1 (by omega)
          rw [hall] at h
          exact List.append_cancel_left h
        have ih' := ih (p.2 + 1) r (by omega) hrest (fun q hq => hok q (List.mem_cons_of_mem _ hq)) (fun i a c ha hc => hg (i + 1) a c ha hc)
        rw [rgsT, ih']
        unfold rgT
        rw [hb1]
        by_cases hlt : b < p.2
        · rw [cls_two (by omega) hv hE hlt, if_pos hlt, app_app]
        · rw [cls_one (by omega) hv hE hlt, if_neg hlt, app_no]
theorem ranges_text {s : St} {R : List (Nat × Nat)} (h : Rg R s.list) : ⟨#[91]⟩ ++ rgsT R ++ ⟨#[93]⟩ = clsT s := by
  have := rgs_text (s := s) 257 0 R (by omega) (by rw [h.out]; unfold St.list; rw [List.range_eq_range']) h.ok h.gap
  rw [this]; rfl
theorem rgsT_size {R : List (Nat × Nat)} : (rgsT R).size ≤ 9 * R.length := by
  induction R with
  | nil => exact Nat.zero_le _
  | cons p r ih =>
    rw [rgsT, size_app, List.length_cons]
    unfold rgT
    rw [size_app, xT_size]
    split
    · rw [dxT_size]; omega
    · have : noT.size = 0 := rfl
      omega

end Go.Proofs.YtibmcdgnponpmaaDoor
