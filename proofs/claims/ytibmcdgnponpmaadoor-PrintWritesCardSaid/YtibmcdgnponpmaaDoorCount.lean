/- What set.Count answers. -/
import Derived.Test.YtibmcdgnponpmaaDoorProg
import Derived.Test.YtibmcdgnponpmaaDoorBits
import Derived.Test.YtibmcdgnponpmaaDoorLeast
import Derived.LoopN
namespace Go.Proofs.YtibmcdgnponpmaaDoor
open Go.RowKit

set_option maxHeartbeats 2000000 in
theorem setCount (s : St) (hs : s.Ok) (w : World) :
    Calls Tryd.prog 47 #[.agg #[.int .u64 s.w0, .int .u64 s.w1, .int .u64 s.w2, .int .u64 s.w3]] w fun e w' => e = .returned (.int .i64 (s.list.length : Nat)) ∧ Below w.heap.size w w' := by
  have HL := Lib.hid s.list_length
  obtain ⟨n0, h0⟩ : ∃ n : Nat, n = (ws s.w0).length := ⟨_, rfl⟩
  obtain ⟨n1, h1⟩ : ∃ n : Nat, n = (ws s.w1).length := ⟨_, rfl⟩
  obtain ⟨n2, h2⟩ : ∃ n : Nat, n = (ws s.w2).length := ⟨_, rfl⟩
  obtain ⟨n3, h3⟩ : ∃ n : Nat, n = (ws s.w3).length := ⟨_, rfl⟩
  have l0 : n0 ≤ 64 := by rw [h0]; exact ws_length _
  have l1 : n1 ≤ 64 := by rw [h1]; exact ws_length _
  have l2 : n2 ≤ 64 := by rw [h2]; exact ws_length _
  have l3 : n3 ≤ 64 := by rw [h3]; exact ws_length _
  have c0 := Lib.hid (fun W => onesCount s.w0 hs.o0 W)
  have c1 := Lib.hid (fun W => onesCount s.w1 hs.o1 W)
  have c2 := Lib.hid (fun W => onesCount s.w2 hs.o2 W)
  have c3 := Lib.hid (fun W => onesCount s.w3 hs.o3 W)
  rw [← h0, ← h1, ← h2, ← h3] at HL
  rw [← h0] at c0
  rw [← h1] at c1
  rw [← h2] at c2
  rw [← h3] at c3
  clear h0 h1 h2 h3
  have i0 := idx0 (.int .u64 s.w0) (.int .u64 s.w1) (.int .u64 s.w2) (.int .u64 s.w3)
  have i1 := idx1 (.int .u64 s.w0) (.int .u64 s.w1) (.int .u64 s.w2) (.int .u64 s.w3)
  have i2 := idx2 (.int .u64 s.w0) (.int .u64 s.w1) (.int .u64 s.w2) (.int .u64 s.w3)
  have i3 := idx3 (.int .u64 s.w0) (.int .u64 s.w1) (.int .u64 s.w2) (.int .u64 s.w3)
  go_enter Tryd.func47, Tryd.ntmps47
  go_wp2
  refine wp_loop_rounds 5 ?_
  rw [rounds_succ]
  go_wp2_with fail
  refine (c0.out _).mono ?_
  rintro e w1 ⟨rfl, rfl⟩
  go_wp2_with fail
  rw [rounds_succ]
  go_wp2_with fail
  refine (c1.out _).mono ?_
  rintro e w1 ⟨rfl, rfl⟩
  go_wp2_with fail
  rw [rounds_succ]
  go_wp2_with fail
  refine (c2.out _).mono ?_
  rintro e w1 ⟨rfl, rfl⟩
  go_wp2_with fail
  rw [rounds_succ]
  go_wp2_with fail
  refine (c3.out _).mono ?_
  rintro e w1 ⟨rfl, rfl⟩
  go_wp2_with fail
  rw [rounds_succ]
  go_wp2_with fail
  go_ret
  exact ⟨by rw [HL.out]; rfl, (Below.refl _ _).alloc (Nat.le_refl _) _⟩

end Go.Proofs.YtibmcdgnponpmaaDoor
