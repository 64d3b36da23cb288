/- What is claimed of the reference's formed, at patterns of so many levels. -/
import Derived.Test.YtignekgckkdgiaaProg
import Derived.Test.YtignekgckkdgiaaWords
import Derived.Test.YtignekgckkdgiaaCl
import Derived.Test.YtignekgckkdgiaaTr
import Derived.Test.YtignekgckkdgiaaFormed
namespace Go.Proofs.Ytignekgckkdgiaa
open Go.RowKit

def FormedAt (k : Nat) : Prop := ∀ (t : Tr) (w : World), Tr.In w k t → Calls Try.prog 25 #[.agg t.cs.toArray] w fun e w' => e = .returned (.bool (formedS k t)) ∧ Below w.heap.size w w'

end Go.Proofs.Ytignekgckkdgiaa
