/- norm.And: what all of the nodes match. -/
import Derived.Test.YthifbaacmohmnaaGreatMbl
namespace Go.Proofs.YthifbaacmohmnaaGreat
open Go.RowKit
set_option linter.unusedSimpArgs false
set_option linter.unusedVariables false

theorem noSt_has (b : Nat) : noSt.has b = false := by
  unfold noSt St.has St.word
  split
  · simp
  · split
    · simp
    · split <;> simp
theorem BytesOf.nil5 {ns : List Nd} : BytesOf ns 5 [] noSt.not := by
  refine ⟨St.not_ok, fun b hb => ?_⟩
  rw [has_not noSt noSt_ok, noSt_has]
  constructor
  · intro q; cases q
  · rintro ⟨y, hy, _⟩; cases hy
theorem BytesOf.and {ns : List Nd} {y : Int} {ms : List Int} {U : St} (h : BytesOf ns 5 ms U) (hy : kd ns y = 2) (ho : (ndAt ns y.toNat).set.Ok) : BytesOf ns 5 (ms ++ [y]) (U.and (ndAt ns y.toNat).set) := by
  refine ⟨St.and_ok (t := (ndAt ns y.toNat).set) h.1, fun b hb => ?_⟩
  have e : (decide ((5 : Int) = 5)) = true := rfl
  have := h.2 b hb
  rw [e, Bool.bne_true, Bool.not_eq_true'] at this
  rw [e, Bool.bne_true, Bool.not_eq_true', has_and, Bool.and_eq_false_iff, this]
  constructor
  · rintro (⟨z, hz, q1, q2⟩ | q)
    · exact ⟨z, List.mem_append_left _ hz, q1, q2⟩
    · exact ⟨y, List.mem_append_right _ (by simp), hy, by rw [Bool.bne_true, q]; rfl⟩
  · rintro ⟨z, hz, q1, q2⟩
    rcases List.mem_append.1 hz with hz | hz
    · exact Or.inl ⟨z, hz, q1, q2⟩
    · rw [List.mem_singleton.1 hz, Bool.bne_true, Bool.not_eq_true'] at q2; exact Or.inr q2
section
variable {AA : World → Value → List Nd → (Nat → Prop) → Prop}
end

end Go.Proofs.YthifbaacmohmnaaGreat
