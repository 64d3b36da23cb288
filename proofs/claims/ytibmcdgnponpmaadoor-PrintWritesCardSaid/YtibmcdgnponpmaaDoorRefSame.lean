/- What the reference's Same answers. -/
import Derived.Test.YtibmcdgnponpmaaDoorProg
import Derived.Test.YtibmcdgnponpmaaDoorMa
import Derived.Test.YtibmcdgnponpmaaDoorSetEq
import Derived.Test.YtibmcdgnponpmaaDoorRefHas
import Derived.Deep.RegionHeld3
namespace Go.Proofs.YtibmcdgnponpmaaDoor
open Go.RowKit
set_option linter.unusedSimpArgs false
set_option linter.unusedVariables false

theorem below_two {w : World} (a b : Obj) : Below w.heap.size w ((w.alloc a).alloc b) := ((Below.refl _ _).alloc (Nat.le_refl _) _).alloc (by simp) _

end Go.Proofs.YtibmcdgnponpmaaDoor
