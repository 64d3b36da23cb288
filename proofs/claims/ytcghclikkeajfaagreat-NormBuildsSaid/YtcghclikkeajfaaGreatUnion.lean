/- What set.Union and Not answer, of any sets. -/
import Derived.Test.YtcghclikkeajfaaGreatProg
import Derived.Test.YtcghclikkeajfaaGreatMa
import Derived.RegionTactic
import Derived.BigRegion
import Derived.LoopN
namespace Go.Proofs.YtcghclikkeajfaaGreat
open Go.RowKit

set_option maxHeartbeats 1000000 in
theorem setUnion (s t : St) (hs : s.Ok) (ht : t.Ok) (w : World) :
    Calls Tryz.prog 44 #[.agg #[.int .u64 s.w0, .int .u64 s.w1, .int .u64 s.w2, .int .u64 s.w3], .agg #[.int .u64 t.w0, .int .u64 t.w1, .int .u64 t.w2, .int .u64 t.w3]] w fun e w' =>
      e = .returned (.agg #[.int .u64 (s.or t).w0, .int .u64 (s.or t).w1, .int .u64 (s.or t).w2, .int .u64 (s.or t).w3]) ∧ Below w.heap.size w w' := by
  have b0 := bits_or s.w0 t.w0 hs.o0 ht.o0
  have b1 := bits_or s.w1 t.w1 hs.o1 ht.o1
  have b2 := bits_or s.w2 t.w2 hs.o2 ht.o2
  have b3 := bits_or s.w3 t.w3 hs.o3 ht.o3
  go_enter Tryz.func44, Tryz.ntmps44
  go_wp2
  refine wp_loop_rounds 5 ?_
  iterate 4
    rw [rounds_succ]
    go_wp2
    go_region
    go_wp2
  rw [rounds_succ]
  go_wp2
  refine bodyPost_ret (v := .agg #[.int .u64 (s.or t).w0, .int .u64 (s.or t).w1, .int .u64 (s.or t).w2, .int .u64 (s.or t).w3]) (by simp [results, Tryz.results44, go_sem, St.or]) rfl ⟨rfl, ?_⟩
  repeat (first | exact Below.refl _ _ | refine Below.drew ?_ | refine Below.alloc ?_ (by simp; try omega) _)

set_option maxHeartbeats 1000000 in
theorem setNot (s : St) (hs : s.Ok) (w : World) :
    Calls Tryz.prog 74 #[.agg #[.int .u64 s.w0, .int .u64 s.w1, .int .u64 s.w2, .int .u64 s.w3]] w fun e w' =>
      e = .returned (.agg #[.int .u64 s.not.w0, .int .u64 s.not.w1, .int .u64 s.not.w2, .int .u64 s.not.w3]) ∧ Below w.heap.size w w' := by
  have b0 := bits_not s.w0 hs.o0
  have b1 := bits_not s.w1 hs.o1
  have b2 := bits_not s.w2 hs.o2
  have b3 := bits_not s.w3 hs.o3
  go_enter Tryz.func74, Tryz.ntmps74
  go_wp2
  refine wp_loop_rounds 5 ?_
  iterate 4
    rw [rounds_succ]
    go_wp2
  rw [rounds_succ]
  go_wp2
  refine bodyPost_ret (v := .agg #[.int .u64 s.not.w0, .int .u64 s.not.w1, .int .u64 s.not.w2, .int .u64 s.not.w3]) (by simp [results, Tryz.results74, go_sem, St.not]) rfl ⟨rfl, ?_⟩
  repeat (first | exact Below.refl _ _ | refine Below.drew ?_ | refine Below.alloc ?_ (by simp; try omega) _)

end Go.Proofs.YtcghclikkeajfaaGreat
