/- The reference's Turn, of whatever pattern of few parts. -/
import Derived.Test.YtignekgckkdgiaaProg
import Derived.Test.YtignekgckkdgiaaRefTurnA
import Derived.Test.YtignekgckkdgiaaRefTurnB
namespace Go.Proofs.Ytignekgckkdgiaa
open Go.RowKit

theorem refTurn : ∀ k, Makes 18 turnS k
  | 0 => fun _ _ h => h.elim
  | k + 1 => fun t w h hs => by
    have ih := refTurn k
    by_cases h3 : t.kind = 3
    · exact refTurn_3 k ih t w h hs h3
    by_cases h8 : t.kind = 8
    · exact refTurn_8 k ih t w h hs h8
    by_cases h9 : t.kind = 9
    · exact refTurn_9 k ih t w h hs h9
    by_cases h10 : t.kind = 10
    · exact refTurn_10 k ih t w h hs h10
    by_cases h11 : t.kind = 11
    · exact refTurn_11 k ih t w h hs h11
    exact refTurn_o k ih t w h hs ⟨h3, h8, h9, h10, h11⟩

end Go.Proofs.Ytignekgckkdgiaa
