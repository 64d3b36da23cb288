/- '==' on two sets. -/
import Derived.Test.YtkbfoelffeocmaaGreatProg
import Derived.Test.YtkbfoelffeocmaaGreatMa
namespace Go.Proofs.YtkbfoelffeocmaaGreat
open Go.RowKit

theorem setEq (w : World) (s t : St) (v : Bool) (h : s.eqb t = v) :
    (Op.equalIn 10000 33 (.agg #[.int .u64 s.w0, .int .u64 s.w1, .int .u64 s.w2, .int .u64 s.w3]) (.agg #[.int .u64 t.w0, .int .u64 t.w1, .int .u64 t.w2, .int .u64 t.w3])).run Tryz.prog w = .ok v w := by
  rw [← h]
  exact run_set_eq (d := 9998) Tryz.underlying33 (by kernel_rfl) Tryz.underlying31 (by kernel_rfl) w s t

end Go.Proofs.YtkbfoelffeocmaaGreat
