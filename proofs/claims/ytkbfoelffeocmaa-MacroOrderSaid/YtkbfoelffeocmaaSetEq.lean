/- '==' on two sets. -/
import Derived.Test.YtkbfoelffeocmaaProg
import Derived.Test.YtkbfoelffeocmaaMa
namespace Go.Proofs.Ytkbfoelffeocmaa
open Go.RowKit

theorem setEq (w : World) (s t : St) (v : Bool) (h : s.eqb t = v) :
    (Op.equalIn 10000 31 (.agg #[.int .u64 s.w0, .int .u64 s.w1, .int .u64 s.w2, .int .u64 s.w3]) (.agg #[.int .u64 t.w0, .int .u64 t.w1, .int .u64 t.w2, .int .u64 t.w3])).run Try.prog w = .ok v w := by
  rw [← h]
  exact run_set_eq (d := 9998) Try.underlying31 (by kernel_rfl) Try.underlying29 (by kernel_rfl) w s t

end Go.Proofs.Ytkbfoelffeocmaa
