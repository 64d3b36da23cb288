/- bolterlaw09.below: is a node below another one, or itself? -/
import Derived.Test.YtcghclikkeajfaaGreatMK
namespace Go.Proofs.YtcghclikkeajfaaGreat
open Go.RowKit
set_option linter.unusedSimpArgs false
set_option linter.unusedVariables false

end Go.Proofs.YtcghclikkeajfaaGreat
