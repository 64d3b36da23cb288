/- bolterlaw09.below: is a node below another one, or itself? -/
import Derived.Test.YtcghclikkeajfaaNode
namespace Go.Proofs.Ytcghclikkeajfaa
open Go.RowKit
set_option linter.unusedSimpArgs false
set_option linter.unusedVariables false

/-- Below, with so many steps to go. -/
def belowS (ns : List Nd) (k : Nat) : Nat → Int → Bool
  | 0, _ => false
  | f + 1, id => decide (id = k) || (let x := ndAt ns id.toNat
    if x.kind = 3 ∨ x.kind = 4 ∨ x.kind = 5 then (decide ((k : Int) ≤ x.a) && belowS ns k f x.a) || (decide ((k : Int) ≤ x.b) && belowS ns k f x.b)
    else if x.kind = 6 ∨ x.kind = 7 then decide ((k : Int) ≤ x.a) && belowS ns k f x.a
    else false)
theorem below_self (ns : List Nd) (k f : Nat) : belowS ns k (f + 1) k = true := by unfold belowS; simp
theorem below_step2 {ns : List Nd} {k f id : Nat} {x : Nd} (h : id ≠ k) (hx : ndAt ns id = x) : belowS ns k (f + 1) id = (if x.kind = 3 ∨ x.kind = 4 ∨ x.kind = 5 then (decide ((k : Int) ≤ x.a) && belowS ns k f x.a) || (decide ((k : Int) ≤ x.b) && belowS ns k f x.b)
    else if x.kind = 6 ∨ x.kind = 7 then decide ((k : Int) ≤ x.a) && belowS ns k f x.a
    else false) := by
  have hne : ¬ ((id : Int) = (k : Int)) := by omega
  show (decide ((id : Int) = k) || _) = _
  rw [decide_eq_false hne, Bool.false_or]
  simp only [Int.toNat_natCast, hx]

end Go.Proofs.Ytcghclikkeajfaa
