/- '==' on two sets. -/
import Derived.Test.YtcghclikkeajfaaProg
import Derived.Test.YtcghclikkeajfaaMa
namespace Go.Proofs.Ytcghclikkeajfaa
open Go.RowKit

theorem setEq (w : World) (s t : St) (v : Bool) (h : s.eqb t = v) :
    (Op.equalIn 10000 32 (.agg #[.int .u64 s.w0, .int .u64 s.w1, .int .u64 s.w2, .int .u64 s.w3]) (.agg #[.int .u64 t.w0, .int .u64 t.w1, .int .u64 t.w2, .int .u64 t.w3])).run Try.prog w = .ok v w := by
  rw [← h]
  exact run_set_eq (d := 9998) Try.underlying32 (by kernel_rfl) Try.underlying30 (by kernel_rfl) w s t

end Go.Proofs.Ytcghclikkeajfaa
