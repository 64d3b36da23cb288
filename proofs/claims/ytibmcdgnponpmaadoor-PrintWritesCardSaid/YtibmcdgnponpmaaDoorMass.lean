/- How many nodes a pattern has. No program is named here. -/
import Derived.Test.YtibmcdgnponpmaaDoorMa
namespace Go.Proofs.YtibmcdgnponpmaaDoor
open Go.RowKit
set_option linter.unusedSimpArgs false
set_option linter.unusedVariables false

/-- How many nodes. -/
def massS : Nat → Tr → Nat
  | 0, _ => 1
  | k + 1, t => 1 + (t.parts.map (massS k)).sum
def lmS (k : Nat) (ms : List Tr) : Nat := (ms.map (massS k)).sum
theorem mass_pos (k : Nat) (t : Tr) : 1 ≤ massS k t := by cases k <;> simp [massS]
theorem lm_pos {k : Nat} {ms : List Tr} (h : 0 < ms.length) : 1 ≤ lmS k ms := by
  cases ms with
  | nil => exact absurd h (Nat.lt_irrefl 0)
  | cons t r => have := mass_pos k t; unfold lmS; rw [List.map_cons, List.sum_cons]; omega
theorem mass_parts (k : Nat) (t : Tr) : massS (k + 1) t = 1 + lmS k t.parts := rfl

end Go.Proofs.YtibmcdgnponpmaaDoor
