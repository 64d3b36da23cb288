/- Joined: RefFormedAt, RefFormedA, RefFormedB, RefFormedC, RefFormedD, RefDeep, RefSize, RefFormed. -/
import Derived.Test.YtkbfoelffeocmaaProg
import Derived.Test.YtkbfoelffeocmaaMa
import Derived.Test.YtkbfoelffeocmaaSetEq
import Derived.Test.YtkbfoelffeocmaaRefHas
/- What is claimed of the reference's formed, at patterns of so many levels. -/
namespace Go.Proofs.Ytkbfoelffeocmaa
open Go.RowKit

end Go.Proofs.Ytkbfoelffeocmaa

/- What the reference's formed answers. -/
namespace Go.Proofs.Ytkbfoelffeocmaa
open Go.RowKit
set_option linter.unusedSimpArgs false
set_option linter.unusedVariables false

end Go.Proofs.Ytkbfoelffeocmaa

/- What the reference's formed answers. -/
namespace Go.Proofs.Ytkbfoelffeocmaa
open Go.RowKit
set_option linter.unusedSimpArgs false
set_option linter.unusedVariables false

end Go.Proofs.Ytkbfoelffeocmaa

/- What the reference's formed answers. -/
namespace Go.Proofs.Ytkbfoelffeocmaa
open Go.RowKit
set_option linter.unusedSimpArgs false
set_option linter.unusedVariables false

end Go.Proofs.Ytkbfoelffeocmaa

/- What the reference's formed answers. -/
namespace Go.Proofs.Ytkbfoelffeocmaa
open Go.RowKit
set_option linter.unusedSimpArgs false
set_option linter.unusedVariables false

end Go.Proofs.Ytkbfoelffeocmaa

/- What the reference's Deep answers. -/
namespace Go.Proofs.Ytkbfoelffeocmaa
open Go.RowKit

end Go.Proofs.Ytkbfoelffeocmaa

/- What the reference's Size answers. -/
namespace Go.Proofs.Ytkbfoelffeocmaa
open Go.RowKit

end Go.Proofs.Ytkbfoelffeocmaa

/- What the reference's formed and Formed answer. -/
namespace Go.Proofs.Ytkbfoelffeocmaa
open Go.RowKit
set_option linter.unusedSimpArgs false

def isFormed (k : Nat) (t : Tr) : Bool := decide (deepS k 40 t < 41) && (formedS k t && decide (sizeS k t < 1001))
end Go.Proofs.Ytkbfoelffeocmaa
