/- What package print writes of whatever pattern. -/
import Derived.Test.YtibmcdgnponpmaaDoorPrintD
import Derived.Test.YtibmcdgnponpmaaDoorPrintE
import Derived.Test.YtibmcdgnponpmaaDoorPrintF
namespace Go.Proofs.YtibmcdgnponpmaaDoor
open Go.RowKit

theorem pWrite (b : Nat) (hgb : 0 < b) : ∀ k, Writes b k
  | 0 => fun _ _ _ h _ _ => h.lies.elim
  | k + 1 => fun t x w h hb hs => by
    have ih := pWrite b hgb k
    have hr := h.wrt.1
    obtain h1 | h1 | h1 | h1 | h1 | h1 | h1 | h1 | h1 | h1 | h1 : t.kind = 1 ∨ t.kind = 2 ∨ t.kind = 3 ∨ t.kind = 4 ∨ t.kind = 5 ∨ t.kind = 6 ∨ t.kind = 7 ∨ t.kind = 8 ∨ t.kind = 9 ∨ t.kind = 10 ∨ t.kind = 11 := by omega
    · exact pWrite_1 b k hgb ih t x w h hb hs h1
    · exact pWrite_2 b k hgb ih t x w h hb hs h1
    · exact pWrite_3 b k hgb ih t x w h hb hs h1
    · exact pWrite_4 b k hgb ih t x w h hb hs h1
    · exact pWrite_5 b k hgb ih t x w h hb hs h1
    · exact pWrite_6 b k hgb ih t x w h hb hs h1
    · exact pWrite_7 b k hgb ih t x w h hb hs h1
    · exact pWrite_8 b k hgb ih t x w h hb hs h1
    · exact pWrite_9 b k hgb ih t x w h hb hs h1
    · exact pWrite_10 b k hgb ih t x w h hb hs h1
    · exact pWrite_11 b k hgb ih t x w h hb hs h1

end Go.Proofs.YtibmcdgnponpmaaDoor
