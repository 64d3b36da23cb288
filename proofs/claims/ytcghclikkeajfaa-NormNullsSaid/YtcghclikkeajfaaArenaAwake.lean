/- bolterlaw09.awake, by what an arena does. -/
import Derived.Test.YtcghclikkeajfaaMe
namespace Go.Proofs.Ytcghclikkeajfaa
open Go.RowKit
set_option linter.unusedSimpArgs false
set_option linter.unusedVariables false
theorem noSt_ok : noSt.Ok := ⟨by show (0 : Nat) < _; decide, by show (0 : Nat) < _; decide, by show (0 : Nat) < _; decide, by show (0 : Nat) < _; decide⟩
def emptyN : Nd := ⟨1, noSt, 0, 0, false⟩
theorem empty_right : emptyN.right 0 = true := by decide
theorem empty_put : putS [] emptyN = [emptyN] := by
  unfold putS
  rw [if_pos (by exact empty_right), if_neg (by simp)]; rfl
theorem empty_id : putId [] emptyN = 0 := by decide
theorem empty_e : putE [] emptyN = 0 := by decide
section
variable {AA : World → Value → List Nd → (Nat → Prop) → Prop}

end

end Go.Proofs.Ytcghclikkeajfaa
