/- A pattern that is laid into a variable of the call's own. -/
import Derived.Test.YtignekgckkdgiaaProg
import Derived.Test.YtignekgckkdgiaaWords
import Derived.Test.YtignekgckkdgiaaCl
import Derived.Test.YtignekgckkdgiaaRow
import Derived.Test.YtignekgckkdgiaaTr
import Derived.Test.YtignekgckkdgiaaStrip
import Derived.Test.YtignekgckkdgiaaFormed
namespace Go.Proofs.Ytignekgckkdgiaa
open Go.RowKit

theorem Tr.one (t : Tr) : t.cs.toArray.all (·.oneCell') = true := by unfold Tr.cs; simp [Value.oneCell']
def boxW (w : World) (t : Tr) : World := (w.alloc (.cells Tr.blank.cs.toArray 27)).setRow w.heap.size t.cs.toArray
theorem boxW_at (w : World) (t : Tr) : At (boxW w t) w.heap.size 27 t.cs.toArray := At.row (At.new w 27 Tr.blank.cs.toArray) _
theorem boxW_below {w0 w : World} (h : Below w0.heap.size w0 w) (t : Tr) : Below w0.heap.size w0 (boxW w t) := below_row (h.alloc h.size _) h.size _
theorem boxW_next (w : World) (t : Tr) : Below w.heap.size w (boxW w t) := below_row ((Below.refl _ _).alloc (Nat.le_refl _) _) (Nat.le_refl _) _
theorem boxW_size (w : World) (t : Tr) : (boxW w t).heap.size = w.heap.size + 1 := by unfold boxW; simp
theorem negB_at {t : Tr} (h8 : ¬ t.kind = 8) (h9 : ¬ t.kind = 9) : decide (t.kind = 8 ∨ t.kind = 9 ∨ t.neg = false) = !t.neg := by cases t.neg <;> simp [h8, h9]

end Go.Proofs.Ytignekgckkdgiaa
