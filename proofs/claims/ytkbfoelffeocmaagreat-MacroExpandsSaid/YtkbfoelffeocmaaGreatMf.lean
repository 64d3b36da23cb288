/- Joined: RefFormedAt, RefFormedA, RefFormedB, RefFormedC, RefFormedD, RefDeep, RefSize, RefFormed. -/
import Derived.Test.YtkbfoelffeocmaaGreatProg
import Derived.Test.YtkbfoelffeocmaaGreatMa
import Derived.Test.YtkbfoelffeocmaaGreatSetEq
import Derived.Test.YtkbfoelffeocmaaGreatRefHas
/- What is claimed of the reference's formed, at patterns of so many levels. -/
namespace Go.Proofs.YtkbfoelffeocmaaGreat
open Go.RowKit

end Go.Proofs.YtkbfoelffeocmaaGreat

/- What the reference's formed answers. -/
namespace Go.Proofs.YtkbfoelffeocmaaGreat
open Go.RowKit
set_option linter.unusedSimpArgs false
set_option linter.unusedVariables false

end Go.Proofs.YtkbfoelffeocmaaGreat

/- What the reference's formed answers. -/
namespace Go.Proofs.YtkbfoelffeocmaaGreat
open Go.RowKit
set_option linter.unusedSimpArgs false
set_option linter.unusedVariables false

end Go.Proofs.YtkbfoelffeocmaaGreat

/- What the reference's formed answers. -/
namespace Go.Proofs.YtkbfoelffeocmaaGreat
open Go.RowKit
set_option linter.unusedSimpArgs false
set_option linter.unusedVariables false

end Go.Proofs.YtkbfoelffeocmaaGreat

/- What the reference's formed answers. -/
namespace Go.Proofs.YtkbfoelffeocmaaGreat
open Go.RowKit
set_option linter.unusedSimpArgs false
set_option linter.unusedVariables false

end Go.Proofs.YtkbfoelffeocmaaGreat

/- What the reference's Deep answers. -/
namespace Go.Proofs.YtkbfoelffeocmaaGreat
open Go.RowKit

end Go.Proofs.YtkbfoelffeocmaaGreat

/- What the reference's Size answers. -/
namespace Go.Proofs.YtkbfoelffeocmaaGreat
open Go.RowKit

end Go.Proofs.YtkbfoelffeocmaaGreat

/- What the reference's formed and Formed answer. -/
namespace Go.Proofs.YtkbfoelffeocmaaGreat
open Go.RowKit
set_option linter.unusedSimpArgs false

def isFormed (k : Nat) (t : Tr) : Bool := decide (deepS k 40 t < 41) && (formedS k t && decide (sizeS k t < 1001))
end Go.Proofs.YtkbfoelffeocmaaGreat
