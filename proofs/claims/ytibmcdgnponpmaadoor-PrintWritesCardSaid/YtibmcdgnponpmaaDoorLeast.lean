/- What set.Least answers. -/
import Derived.Test.YtibmcdgnponpmaaDoorProg
import Derived.Test.YtibmcdgnponpmaaDoorTab
import Derived.LoopN
namespace Go.Proofs.YtibmcdgnponpmaaDoor
open Go.RowKit

theorem St.word_0 (s : St) : s.word 0 = s.w0 := rfl
theorem St.word_1 (s : St) : s.word 1 = s.w1 := rfl
theorem St.word_2 (s : St) : s.word 2 = s.w2 := rfl
theorem St.word_3 (s : St) : s.word 3 = s.w3 := rfl
theorem St.list_is (s : St) : s.list = ((((ws s.w0).map (64 * 0 + ·)) ++ (ws s.w1).map (64 * 1 + ·)) ++ (ws s.w2).map (64 * 2 + ·)) ++ (ws s.w3).map (64 * 3 + ·) := by
  rw [← St.listTo_four, St.listTo_succ, St.listTo_succ, St.listTo_succ, St.listTo_succ, St.listTo_zero]
  rfl
theorem St.list_length (s : St) : s.list.length = (ws s.w0).length + (ws s.w1).length + (ws s.w2).length + (ws s.w3).length := by
  rw [St.list_is]; simp; omega
theorem idx0 (a b c d : Value) (w : World) : (Instr.index 24 (.agg #[a, b, c, d]) (.int .i64 0)).run Tryd.prog w = .ok a w := by kernel_rfl
theorem idx1 (a b c d : Value) (w : World) : (Instr.index 24 (.agg #[a, b, c, d]) (.int .i64 1)).run Tryd.prog w = .ok b w := by kernel_rfl
theorem idx2 (a b c d : Value) (w : World) : (Instr.index 24 (.agg #[a, b, c, d]) (.int .i64 2)).run Tryd.prog w = .ok c w := by kernel_rfl
theorem idx3 (a b c d : Value) (w : World) : (Instr.index 24 (.agg #[a, b, c, d]) (.int .i64 3)).run Tryd.prog w = .ok d w := by kernel_rfl

/-- The least byte of a list, and whether there is one. -/
def leastOf : List Nat → Nat × Bool
  | [] => (0, false)
  | b :: _ => (b, true)
theorem zero_tests (w : Nat) (h : w = 0) : ((w : Int) != 0) = false ∧ ((w : Int) == 0) = true := by subst h; exact ⟨rfl, rfl⟩
theorem nonzero_tests (w : Nat) (h : w ≠ 0) : ((w : Int) != 0) = true ∧ ((w : Int) == 0) = false := by
  refine ⟨?_, ?_⟩
  · rw [bne_iff_ne]; omega
  · rw [beq_eq_false_iff_ne]; omega
theorem ws_eq_nil (w : Nat) (h : w = 0) : ws w = [] := by subst h; exact ws_zero
theorem least_at0 (s : St) (hs : s.Ok) (hn : s.w0 ≠ 0) : leastOf s.list = (64 * 0 + Lib.ctz 64 s.w0, true) := by
  rw [St.list_is, (ws_step _ hn hs.o0).2]
  rfl
theorem least_at1 (s : St) (hs : s.Ok) (z0 : s.w0 = 0) (hn : s.w1 ≠ 0) : leastOf s.list = (64 * 1 + Lib.ctz 64 s.w1, true) := by
  rw [St.list_is, (ws_step _ hn hs.o1).2, ws_eq_nil _ z0]
  rfl
theorem least_at2 (s : St) (hs : s.Ok) (z0 : s.w0 = 0) (z1 : s.w1 = 0) (hn : s.w2 ≠ 0) : leastOf s.list = (64 * 2 + Lib.ctz 64 s.w2, true) := by
  rw [St.list_is, (ws_step _ hn hs.o2).2, ws_eq_nil _ z0, ws_eq_nil _ z1]
  rfl
theorem least_at3 (s : St) (hs : s.Ok) (z0 : s.w0 = 0) (z1 : s.w1 = 0) (z2 : s.w2 = 0) (hn : s.w3 ≠ 0) : leastOf s.list = (64 * 3 + Lib.ctz 64 s.w3, true) := by
  rw [St.list_is, (ws_step _ hn hs.o3).2, ws_eq_nil _ z0, ws_eq_nil _ z1, ws_eq_nil _ z2]
  rfl

end Go.Proofs.YtibmcdgnponpmaaDoor
