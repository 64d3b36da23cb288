/- What is claimed of the reference's formed, at patterns of so many levels. -/
import Derived.Test.YtibmcdgnponpmaaDoorProg
import Derived.Test.YtibmcdgnponpmaaDoorMa
namespace Go.Proofs.YtibmcdgnponpmaaDoor
open Go.RowKit

def FormedAt (k : Nat) : Prop := ∀ (t : Tr) (w : World), Tr.In w k t → Calls Tryd.prog 17 #[.agg t.cs.toArray] w fun e w' => e = .returned (.bool (formedS k t)) ∧ Below w.heap.size w w'

end Go.Proofs.YtibmcdgnponpmaaDoor
