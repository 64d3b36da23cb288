/- What the reference's Has answers, of any set and byte. -/
import Derived.Test.YtkbfoelffeocmaaProg
import Derived.Test.YtkbfoelffeocmaaMa
namespace Go.Proofs.Ytkbfoelffeocmaa
open Go.RowKit

theorem ret_bool {a b : Bool} (h : a = b) : Ending.returned (.bool a) = .returned (.bool b) := by rw [h]
theorem St.has_of (s : St) (b q r : Nat) (hb : b = 64 * q + r) (hr : r < 64) : s.has b = (s.word q).testBit r := by
  unfold St.has; rw [show b / 64 = q from by omega, show b % 64 = r from by omega]

end Go.Proofs.Ytkbfoelffeocmaa
