/- What the reference's look answers. -/
import Derived.Test.YtoicbahkoejhjaaProg
import Derived.Test.YtoicbahkoejhjaaWords
import Derived.Test.YtoicbahkoejhjaaCl
import Derived.Test.YtoicbahkoejhjaaRow
import Derived.Test.YtoicbahkoejhjaaTr
import Derived.Test.YtoicbahkoejhjaaFormed
import Derived.Test.YtoicbahkoejhjaaTable
import Derived.Test.YtoicbahkoejhjaaBlank
import Derived.BigRegion
import Derived.BigQuiet
namespace Go.Proofs.Ytoicbahkoejhjaa
open Go.RowKit
set_option linter.unusedVariables false

/-- Is there a span at place i (from it, or, with 'back', up to it), among the first m places? -/
def isTo (fa : Nat → Nat → Bool) (back : Bool) (i m : Nat) : Bool := (List.range m).any (fun k => bif back then fa k i else fa i k)
def lookF (fa : Nat → Nat → Bool) (n : Nat) (back neg : Bool) (i j : Nat) : Bool := if i = j then isTo fa back i n != neg else false
def lookTo (fa : Nat → Nat → Bool) (n : Nat) (back neg : Bool) (i i' j' : Nat) : Bool := if i' < i then lookF fa n back neg i' j' else false
theorem isTo_zero {fa : Nat → Nat → Bool} {back : Bool} {i : Nat} : isTo fa back i 0 = false := rfl
theorem isTo_succ8 {fa : Nat → Nat → Bool} {i k : Nat} : isTo fa false i (k + 1) = (isTo fa false i k || fa i k) := by unfold isTo; rw [List.range_succ, List.any_append]; simp
theorem isTo_succ9 {fa : Nat → Nat → Bool} {i k : Nat} : isTo fa true i (k + 1) = (isTo fa true i k || fa k i) := by unfold isTo; rw [List.range_succ, List.any_append]; simp
theorem lookTo_step {fa : Nat → Nat → Bool} {n : Nat} {back neg : Bool} {i i' j' : Nat} : (if i' = i ∧ j' = i then isTo fa back i n != neg else lookTo fa n back neg i i' j') = lookTo fa n back neg (i + 1) i' j' := by
  by_cases e : i' = i ∧ j' = i
  · obtain ⟨rfl, rfl⟩ := e
    unfold lookTo lookF
    rw [if_pos ⟨rfl, rfl⟩, if_pos (by omega), if_pos rfl]
  · rw [if_neg e]
    unfold lookTo
    by_cases c : i' < i
    · rw [if_pos c, if_pos (by omega)]
    · rw [if_neg c]
      by_cases c2 : i' = i
      · subst c2
        rw [if_pos (by omega)]
        unfold lookF
        rw [if_neg (fun q => e ⟨rfl, q.symm⟩)]
      · rw [if_neg (by omega)]

end Go.Proofs.Ytoicbahkoejhjaa
