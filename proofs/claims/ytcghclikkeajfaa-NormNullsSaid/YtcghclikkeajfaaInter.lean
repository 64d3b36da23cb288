/- What set.Inter answers, of any sets. -/
import Derived.Test.YtcghclikkeajfaaProg
import Derived.Test.YtcghclikkeajfaaMa
import Derived.RegionTactic
import Derived.BigRegion
import Derived.LoopN
namespace Go.Proofs.Ytcghclikkeajfaa
open Go.RowKit

set_option maxHeartbeats 1000000 in
theorem setInter (s t : St) (hs : s.Ok) (ht : t.Ok) (w : World) :
    Calls Try.prog 33 #[.agg #[.int .u64 s.w0, .int .u64 s.w1, .int .u64 s.w2, .int .u64 s.w3], .agg #[.int .u64 t.w0, .int .u64 t.w1, .int .u64 t.w2, .int .u64 t.w3]] w fun e w' =>
      e = .returned (.agg #[.int .u64 (s.and t).w0, .int .u64 (s.and t).w1, .int .u64 (s.and t).w2, .int .u64 (s.and t).w3]) ∧ Below w.heap.size w w' := by
  have b0 := bits_and s.w0 t.w0 hs.o0 ht.o0
  have b1 := bits_and s.w1 t.w1 hs.o1 ht.o1
  have b2 := bits_and s.w2 t.w2 hs.o2 ht.o2
  have b3 := bits_and s.w3 t.w3 hs.o3 ht.o3
  go_enter Try.func33, Try.ntmps33
  go_wp2
  refine wp_loop_rounds 5 ?_
  iterate 4
    rw [rounds_succ]
    go_wp2
    go_region
    go_wp2
  rw [rounds_succ]
  go_wp2
  refine bodyPost_ret (v := .agg #[.int .u64 (s.and t).w0, .int .u64 (s.and t).w1, .int .u64 (s.and t).w2, .int .u64 (s.and t).w3]) (by simp [results, Try.results33, go_sem, St.and]) rfl ⟨rfl, ?_⟩
  repeat (first | exact Below.refl _ _ | refine Below.drew ?_ | refine Below.alloc ?_ (by simp; try omega) _)

end Go.Proofs.Ytcghclikkeajfaa
