/- package formula: mathematics of Dual. No program is walked here. -/
import Derived.Test.YtehokjaojanieaaFoK
namespace Go.Proofs.Ytehokjaojanieaa
open Go.RowKit
set_option linter.unusedVariables false
set_option linter.unusedSimpArgs false

/-- In each part some number is on. -/
def dualH (f : Fm) (on : List Int) : Bool := f.all (fun p => p.any (fun x => hasS on x))
theorem dualH_app (f g : Fm) (on : List Int) : dualH (f ++ g) on = (dualH f on && dualH g on) := by unfold dualH; rw [List.all_append]
theorem dualH_one (p : List Int) (on : List Int) : dualH [p] on = p.any (fun x => hasS on x) := by unfold dualH; simp
/-- The parts of a number each hold just if one of the numbers is on. -/
theorem atoms_holds (l on : List Int) : holdsS (l.map (fun x => [x])) on = l.any (fun x => hasS on x) := by
  rw [Bool.eq_iff_iff, holds_iff, List.any_eq_true]
  constructor
  · rintro ⟨p, hp, e⟩
    obtain ⟨x, hx, rfl⟩ := List.mem_map.1 hp
    exact ⟨x, hx, has_iff.2 (e x (by simp))⟩
  · rintro ⟨x, hx, e⟩
    exact ⟨[x], List.mem_map.2 ⟨x, hx, rfl⟩, fun y hy => by rw [List.mem_singleton.1 hy]; exact has_iff.1 e⟩
/-- All numbers of parts of one number each. -/
theorem ones_holds {f : Fm} (h : ∀ p ∈ f, p.length = 1) (on : List Int) : holdsS [f.flatten] on = dualH f on := by
  rw [holds_one, Bool.eq_iff_iff, part_iff]
  unfold dualH
  rw [List.all_eq_true]
  constructor
  · intro e p hp
    match p, h p hp with
    | [x], _ => simpa using has_iff.2 (e x (List.mem_flatten.2 ⟨[x], hp, by simp⟩))
  · intro e x hx
    obtain ⟨p, hp, hx⟩ := List.mem_flatten.1 hx
    have h1 := h p hp
    have h2 := e p hp
    match p, h1 with
    | [y], _ =>
      rw [List.mem_singleton.1 hx]
      exact has_iff.1 (by simpa using h2)
theorem ones_up {f : Fm} (hs : f.Pairwise (fun p q => lessS p q = true)) (h : ∀ p ∈ f, p.length = 1) : Up f.flatten := by
  induction f with
  | nil => exact List.Pairwise.nil
  | cons p f ih =>
    rw [List.pairwise_cons] at hs
    have ih' := ih hs.2 (fun q hq => h q (by simp [hq]))
    match p, h p (by simp), hs.1 with
    | [x], _, h1 =>
      rw [List.flatten_cons]
      show Up (x :: f.flatten)
      unfold Up
      rw [List.pairwise_cons]
      refine ⟨fun y hy => ?_, ih'⟩
      obtain ⟨q, hq, hy⟩ := List.mem_flatten.1 hy
      have h2 := h1 q hq
      match q, h q (by simp [hq]) with
      | [z], _ =>
        rw [List.mem_singleton.1 hy]
        unfold lessS at h2
        simp [lexS] at h2
        exact h2.2
theorem one_fmd {p : List Int} (hu : Up p) (h0 : ∀ x ∈ p, 0 ≤ x) : Fmd [p] :=
  ⟨fun q hq => by rw [List.mem_singleton.1 hq]; exact ⟨hu, h0⟩, List.pairwise_singleton _ _, fun q hq r hr _ => by rw [List.mem_singleton.1 hq, List.mem_singleton.1 hr]⟩
/-- What is formed and holds as the dual does is the dual. -/
theorem dual_is {f r : Fm} (hf : Fmd f) (hr : Fmd r) (h : ∀ on, holdsS r on = dualH f on) : r = opS 2 f [] := by
  obtain ⟨d1, d2⟩ := dual_fmd (g := []) hf
  refine fm_unique hr d1 (fun on => ?_)
  rw [h on, d2 on ((f.flatten).filter (fun x => !hasS on x)) (fun p hp x hx => ?_)]
  · rw [Bool.eq_iff_iff, Bool.not_eq_true', ← Bool.not_eq_true, holds_iff]
    unfold dualH
    rw [List.all_eq_true]
    constructor
    · rintro e ⟨p, hp, e2⟩
      obtain ⟨x, hx, hx2⟩ := List.any_eq_true.1 (e p hp)
      have := (List.mem_filter.1 (e2 x hx)).2
      rw [hx2] at this; cases this
    · intro e p hp
      rw [List.any_eq_true]
      apply Classical.byContradiction
      intro hno
      refine e ⟨p, hp, fun x hx => List.mem_filter.2 ⟨List.mem_flatten.2 ⟨p, hp, hx⟩, ?_⟩⟩
      cases h3 : hasS on x
      · rfl
      · exact absurd ⟨x, hx, h3⟩ hno
  · rw [List.mem_filter]
    constructor
    · rintro ⟨_, h3⟩ h4
      rw [has_iff.2 h4] at h3; cases h3
    · intro h4
      refine ⟨List.mem_flatten.2 ⟨p, hp, hx⟩, ?_⟩
      cases h3 : hasS on x
      · rfl
      · exact absurd (has_iff.1 h3) h4

end Go.Proofs.Ytehokjaojanieaa
