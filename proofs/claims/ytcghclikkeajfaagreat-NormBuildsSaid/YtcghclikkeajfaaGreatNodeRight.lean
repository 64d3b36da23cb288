/- bolterref09.Right: may a node be put behind so many? -/
import Derived.Test.YtcghclikkeajfaaGreatMK
import Derived.Test.YtcghclikkeajfaaGreatMa
import Derived.StillTailTactics
import Derived.Deep.QuietTactic
import Derived.BigQuiet
namespace Go.Proofs.YtcghclikkeajfaaGreat
open Go.RowKit
set_option linter.unusedSimpArgs false
set_option linter.unusedVariables false

def aIn (a : Int) (n : Int) : Bool := decide (0 ≤ a) && decide (a < n)
def noSt : St := ⟨0, 0, 0, 0⟩
def Nd.bare (x : Nd) : Nd := ⟨x.kind, noSt, 0, 0, false⟩
def Nd.right (x : Nd) (n : Nat) : Bool :=
  if x.kind = 0 ∨ x.kind = 1 then x.eqb x.bare
  else if x.kind = 2 then x.eqb ⟨x.kind, x.set, 0, 0, false⟩
  else if x.kind = 3 ∨ x.kind = 4 ∨ x.kind = 5 then x.eqb ⟨x.kind, noSt, x.a, x.b, false⟩ && aIn x.a n && aIn x.b n
  else if x.kind = 6 ∨ x.kind = 7 then x.eqb ⟨x.kind, noSt, x.a, 0, false⟩ && aIn x.a n
  else if x.kind = 8 then x.eqb ⟨x.kind, noSt, x.a, 0, x.neg⟩ && aIn x.a 4
  else false
theorem below_drewN' {B : Nat} {w w1 : World} (h : Below B w w1) (q : Nat) : Below B w (w1.drewN q) := ⟨h.os, h.tape, h.output, h.size, h.block⟩

end Go.Proofs.YtcghclikkeajfaaGreat
