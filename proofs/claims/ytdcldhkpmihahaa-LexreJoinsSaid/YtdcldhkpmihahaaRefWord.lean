/- What the reference's word answers. -/
import Derived.Test.YtdcldhkpmihahaaRefWordA
import Derived.Test.YtdcldhkpmihahaaRefWordB
import Derived.Test.YtdcldhkpmihahaaRefWordC
import Derived.Test.YtdcldhkpmihahaaRefWordD
import Derived.Test.YtdcldhkpmihahaaRefWordE
namespace Go.Proofs.Ytdcldhkpmihahaa
open Go.RowKit
set_option linter.unusedSimpArgs false
set_option linter.unusedVariables false

theorem refWord (s : ByteArray) (p : Nat) (hs : s.size ≤ 20000) (hp : p < s.size) (w : World) :
    Calls Try.prog 11 #[.string s, .int .i64 p] w fun e w' => e = .returned (.tuple #[.agg (wdCells (wordS s p).1 0), .int .i64 (wordS s p).2]) ∧ Below w.heap.size w w' := by
  by_cases h2 : 2 < s.size - p
  · by_cases hb : bt s p = 40
    · by_cases h1 : bt s (p + 1) = 63
      · exact refWordE s p hs hp hb h2 h1 w
      · exact refWordD s p hs hp hb h2 h1 w
    · exact refWordB s p hs hp hb h2 w
  · by_cases hb : bt s p = 40
    · exact refWordC s p hs hp hb h2 w
    · exact refWordA s p hs hp hb h2 w
end Go.Proofs.Ytdcldhkpmihahaa
