/- package formula does what its chapter says (Key aside). -/
import Derived.Test.YtehokjaojanieaaFoW
namespace Go.Proofs.Ytehokjaojanieaa
open Go.RowKit

theorem formulaIs : FormulaSpec where
  awake := fAwake
  formed := fFormed
  or := fOrC
  and := fAndC
  dual := fDual
  same := fSame

end Go.Proofs.Ytehokjaojanieaa
