/- What set.Least answers. -/
import Derived.Test.YthmppooefajpgaaDoorProg
import Derived.Test.YthmppooefajpgaaDoorTab
import Derived.LoopN
namespace Go.Proofs.YthmppooefajpgaaDoor
open Go.RowKit

theorem St.word_0 (s : St) : s.word 0 = s.w0 := rfl
theorem St.word_1 (s : St) : s.word 1 = s.w1 := rfl
theorem St.word_2 (s : St) : s.word 2 = s.w2 := rfl
theorem St.word_3 (s : St) : s.word 3 = s.w3 := rfl
theorem St.list_is (s : St) : s.list = ((((ws s.w0).map (64 * 0 + ·)) ++ (ws s.w1).map (64 * 1 + ·)) ++ (ws s.w2).map (64 * 2 + ·)) ++ (ws s.w3).map (64 * 3 + ·) := by
  rw [← St.listTo_four, St.listTo_succ, St.listTo_succ, St.listTo_succ, St.listTo_succ, St.listTo_zero]
  rfl
theorem St.list_length (s : St) : s.list.length = (ws s.w0).length + (ws s.w1).length + (ws s.w2).length + (ws s.w3).length := by
  rw [St.list_is]; simp; omega
theorem idx0 (a b c d : Value) (w : World) : (Instr.index 30 (.agg #[a, b, c, d]) (.int .i64 0)).run Tryd.prog w = .ok a w := by kernel_rfl
theorem idx1 (a b c d : Value) (w : World) : (Instr.index 30 (.agg #[a, b, c, d]) (.int .i64 1)).run Tryd.prog w = .ok b w := by kernel_rfl
theorem idx2 (a b c d : Value) (w : World) : (Instr.index 30 (.agg #[a, b, c, d]) (.int .i64 2)).run Tryd.prog w = .ok c w := by kernel_rfl
theorem idx3 (a b c d : Value) (w : World) : (Instr.index 30 (.agg #[a, b, c, d]) (.int .i64 3)).run Tryd.prog w = .ok d w := by kernel_rfl

/-- The least byte of a list, and whether there is one. -/
def leastOf : List Nat → Nat × Bool
  | [] => (0, false)
  | b :: _ => (b, true)
theorem zero_tests (w : Nat) (h : w = 0) : ((w : Int) != 0) = false ∧ ((w : Int) == 0) = true := by subst h; exact ⟨rfl, rfl⟩
theorem nonzero_tests (w : Nat) (h : w ≠ 0) : ((w : Int) != 0) = true ∧ ((w : Int) == 0) = false := by
  refine ⟨?_, ?_⟩
  · rw [bne_iff_ne]; omega
  · rw [beq_eq_false_iff_ne]; omega
theorem ws_eq_nil (w : Nat) (h : w = 0) : ws w = [] := by subst h; exact ws_zero
theorem least_at0 (s : St) (hs : s.Ok) (hn : s.w0 ≠ 0) : leastOf s.list = (64 * 0 + Lib.ctz 64 s.w0, true) := by
  rw [St.list_is, (ws_step _ hn hs.o0).2]
  rfl
theorem least_at1 (s : St) (hs : s.Ok) (z0 : s.w0 = 0) (hn : s.w1 ≠ 0) : leastOf s.list = (64 * 1 + Lib.ctz 64 s.w1, true) := by
  rw [St.list_is, (ws_step _ hn hs.o1).2, ws_eq_nil _ z0]
  rfl
theorem least_at2 (s : St) (hs : s.Ok) (z0 : s.w0 = 0) (z1 : s.w1 = 0) (hn : s.w2 ≠ 0) : leastOf s.list = (64 * 2 + Lib.ctz 64 s.w2, true) := by
  rw [St.list_is, (ws_step _ hn hs.o2).2, ws_eq_nil _ z0, ws_eq_nil _ z1]
  rfl
theorem least_at3 (s : St) (hs : s.Ok) (z0 : s.w0 = 0) (z1 : s.w1 = 0) (z2 : s.w2 = 0) (hn : s.w3 ≠ 0) : leastOf s.list = (64 * 3 + Lib.ctz 64 s.w3, true) := by
  rw [St.list_is, (ws_step _ hn hs.o3).2, ws_eq_nil _ z0, ws_eq_nil _ z1, ws_eq_nil _ z2]
  rfl

set_option maxHeartbeats 1000000 in
theorem least_walk0 (s : St) (hs : s.Ok) (hn : s.w0 ≠ 0) (w : World) (hT : Tab w) :
    Calls Tryd.prog 11 #[.agg #[.int .u64 s.w0, .int .u64 s.w1, .int .u64 s.w2, .int .u64 s.w3]] w fun e w' => e = .returned (.tuple #[.int .u8 ((leastOf s.list).1 : Nat), .bool (leastOf s.list).2]) ∧ Below w.heap.size w w' := by
  have HL := Lib.hid (least_at0 s hs hn)
  have hk := (ws_step _ hn hs.o0).1
  obtain ⟨k, hkk⟩ : ∃ k : Nat, k = Lib.ctz 64 s.w0 := ⟨_, rfl⟩
  have c := Lib.hid (fun W hW => trailing s.w0 hs.o0 hn W hW)
  rw [← hkk] at HL hk c
  clear hkk
  have hw8 : IntKind.u8.wrap ((k : Int)) = (k : Int) := by rw [IntKind.wrap_u8']; omega
  obtain ⟨t0, u0⟩ := nonzero_tests _ hn
  clear hn
  have i0 := idx0 (.int .u64 s.w0) (.int .u64 s.w1) (.int .u64 s.w2) (.int .u64 s.w3)
  have i1 := idx1 (.int .u64 s.w0) (.int .u64 s.w1) (.int .u64 s.w2) (.int .u64 s.w3)
  have i2 := idx2 (.int .u64 s.w0) (.int .u64 s.w1) (.int .u64 s.w2) (.int .u64 s.w3)
  have i3 := idx3 (.int .u64 s.w0) (.int .u64 s.w1) (.int .u64 s.w2) (.int .u64 s.w3)
  have HT := Lib.hid hT
  clear hT
  go_enter Tryd.func11, Tryd.ntmps11
  go_wp2
  refine wp_loop_rounds 5 ?_
  rw [rounds_succ]
  go_wp2_with fail
  refine (c.out _ (HT.out.alloc _)).mono ?_
  rintro e w1 ⟨rfl, rfl⟩
  go_wp2_with fail
  go_ret2
  exact ⟨by rw [HL.out]; simp, (Below.refl _ _).alloc (Nat.le_refl _) _⟩

set_option maxHeartbeats 1000000 in
theorem least_walk1 (s : St) (hs : s.Ok) (z0 : s.w0 = 0) (hn : s.w1 ≠ 0) (w : World) (hT : Tab w) :
    Calls Tryd.prog 11 #[.agg #[.int .u64 s.w0, .int .u64 s.w1, .int .u64 s.w2, .int .u64 s.w3]] w fun e w' => e = .returned (.tuple #[.int .u8 ((leastOf s.list).1 : Nat), .bool (leastOf s.list).2]) ∧ Below w.heap.size w w' := by
  have HL := Lib.hid (least_at1 s hs z0 hn)
  have hk := (ws_step _ hn hs.o1).1
  obtain ⟨k, hkk⟩ : ∃ k : Nat, k = Lib.ctz 64 s.w1 := ⟨_, rfl⟩
  have c := Lib.hid (fun W hW => trailing s.w1 hs.o1 hn W hW)
  rw [← hkk] at HL hk c
  clear hkk
  have hw8 : IntKind.u8.wrap (64 + (k : Int)) = 64 + (k : Int) := by rw [IntKind.wrap_u8']; omega
  obtain ⟨t1, u1⟩ := nonzero_tests _ hn
  obtain ⟨t0, u0⟩ := zero_tests _ z0
  clear hn z0
  have i0 := idx0 (.int .u64 s.w0) (.int .u64 s.w1) (.int .u64 s.w2) (.int .u64 s.w3)
  have i1 := idx1 (.int .u64 s.w0) (.int .u64 s.w1) (.int .u64 s.w2) (.int .u64 s.w3)
  have i2 := idx2 (.int .u64 s.w0) (.int .u64 s.w1) (.int .u64 s.w2) (.int .u64 s.w3)
  have i3 := idx3 (.int .u64 s.w0) (.int .u64 s.w1) (.int .u64 s.w2) (.int .u64 s.w3)
  have HT := Lib.hid hT
  clear hT
  go_enter Tryd.func11, Tryd.ntmps11
  go_wp2
  refine wp_loop_rounds 5 ?_
  rw [rounds_succ]
  go_wp2_with fail
  rw [rounds_succ]
  go_wp2_with fail
  refine (c.out _ (HT.out.alloc _)).mono ?_
  rintro e w1 ⟨rfl, rfl⟩
  go_wp2_with fail
  go_ret2
  exact ⟨by rw [HL.out]; simp, (Below.refl _ _).alloc (Nat.le_refl _) _⟩

set_option maxHeartbeats 1000000 in
theorem least_walk2 (s : St) (hs : s.Ok) (z0 : s.w0 = 0) (z1 : s.w1 = 0) (hn : s.w2 ≠ 0) (w : World) (hT : Tab w) :
    Calls Tryd.prog 11 #[.agg #[.int .u64 s.w0, .int .u64 s.w1, .int .u64 s.w2, .int .u64 s.w3]] w fun e w' => e = .returned (.tuple #[.int .u8 ((leastOf s.list).1 : Nat), .bool (leastOf s.list).2]) ∧ Below w.heap.size w w' := by
  have HL := Lib.hid (least_at2 s hs z0 z1 hn)
  have hk := (ws_step _ hn hs.o2).1
  obtain ⟨k, hkk⟩ : ∃ k : Nat, k = Lib.ctz 64 s.w2 := ⟨_, rfl⟩
  have c := Lib.hid (fun W hW => trailing s.w2 hs.o2 hn W hW)
  rw [← hkk] at HL hk c
  clear hkk
  have hw8 : IntKind.u8.wrap (128 + (k : Int)) = 128 + (k : Int) := by rw [IntKind.wrap_u8']; omega
  obtain ⟨t2, u2⟩ := nonzero_tests _ hn
  obtain ⟨t0, u0⟩ := zero_tests _ z0
  obtain ⟨t1, u1⟩ := zero_tests _ z1
  clear hn z0 z1
  have i0 := idx0 (.int .u64 s.w0) (.int .u64 s.w1) (.int .u64 s.w2) (.int .u64 s.w3)
  have i1 := idx1 (.int .u64 s.w0) (.int .u64 s.w1) (.int .u64 s.w2) (.int .u64 s.w3)
  have i2 := idx2 (.int .u64 s.w0) (.int .u64 s.w1) (.int .u64 s.w2) (.int .u64 s.w3)
  have i3 := idx3 (.int .u64 s.w0) (.int .u64 s.w1) (.int .u64 s.w2) (.int .u64 s.w3)
  have HT := Lib.hid hT
  clear hT
  go_enter Tryd.func11, Tryd.ntmps11
  go_wp2
  refine wp_loop_rounds 5 ?_
  rw [rounds_succ]
  go_wp2_with fail
  rw [rounds_succ]
  go_wp2_with fail
  rw [rounds_succ]
  go_wp2_with fail
  refine (c.out _ (HT.out.alloc _)).mono ?_
  rintro e w1 ⟨rfl, rfl⟩
  go_wp2_with fail
  go_ret2
  exact ⟨by rw [HL.out]; simp, (Below.refl _ _).alloc (Nat.le_refl _) _⟩

set_option maxHeartbeats 1000000 in
theorem least_walk3 (s : St) (hs : s.Ok) (z0 : s.w0 = 0) (z1 : s.w1 = 0) (z2 : s.w2 = 0) (hn : s.w3 ≠ 0) (w : World) (hT : Tab w) :
    Calls Tryd.prog 11 #[.agg #[.int .u64 s.w0, .int .u64 s.w1, .int .u64 s.w2, .int .u64 s.w3]] w fun e w' => e = .returned (.tuple #[.int .u8 ((leastOf s.list).1 : Nat), .bool (leastOf s.list).2]) ∧ Below w.heap.size w w' := by
  have HL := Lib.hid (least_at3 s hs z0 z1 z2 hn)
  have hk := (ws_step _ hn hs.o3).1
  obtain ⟨k, hkk⟩ : ∃ k : Nat, k = Lib.ctz 64 s.w3 := ⟨_, rfl⟩
  have c := Lib.hid (fun W hW => trailing s.w3 hs.o3 hn W hW)
  rw [← hkk] at HL hk c
  clear hkk
  have hw8 : IntKind.u8.wrap (192 + (k : Int)) = 192 + (k : Int) := by rw [IntKind.wrap_u8']; omega
  obtain ⟨t3, u3⟩ := nonzero_tests _ hn
  obtain ⟨t0, u0⟩ := zero_tests _ z0
  obtain ⟨t1, u1⟩ := zero_tests _ z1
  obtain ⟨t2, u2⟩ := zero_tests _ z2
  clear hn z0 z1 z2
  have i0 := idx0 (.int .u64 s.w0) (.int .u64 s.w1) (.int .u64 s.w2) (.int .u64 s.w3)
  have i1 := idx1 (.int .u64 s.w0) (.int .u64 s.w1) (.int .u64 s.w2) (.int .u64 s.w3)
  have i2 := idx2 (.int .u64 s.w0) (.int .u64 s.w1) (.int .u64 s.w2) (.int .u64 s.w3)
  have i3 := idx3 (.int .u64 s.w0) (.int .u64 s.w1) (.int .u64 s.w2) (.int .u64 s.w3)
  have HT := Lib.hid hT
  clear hT
  go_enter Tryd.func11, Tryd.ntmps11
  go_wp2
  refine wp_loop_rounds 5 ?_
  rw [rounds_succ]
  go_wp2_with fail
  rw [rounds_succ]
  go_wp2_with fail
  rw [rounds_succ]
  go_wp2_with fail
  rw [rounds_succ]
  go_wp2_with fail
  refine (c.out _ (HT.out.alloc _)).mono ?_
  rintro e w1 ⟨rfl, rfl⟩
  go_wp2_with fail
  go_ret2
  exact ⟨by rw [HL.out]; simp, (Below.refl _ _).alloc (Nat.le_refl _) _⟩

set_option maxHeartbeats 1000000 in
theorem least_walkNone (s : St) (z0 : s.w0 = 0) (z1 : s.w1 = 0) (z2 : s.w2 = 0) (z3 : s.w3 = 0) (w : World) :
    Calls Tryd.prog 11 #[.agg #[.int .u64 s.w0, .int .u64 s.w1, .int .u64 s.w2, .int .u64 s.w3]] w fun e w' => e = .returned (.tuple #[.int .u8 ((leastOf s.list).1 : Nat), .bool (leastOf s.list).2]) ∧ Below w.heap.size w w' := by
  have HL : Hid (leastOf s.list = (0, false)) := by
    show leastOf s.list = (0, false)
    rw [St.list_is, ws_eq_nil _ z0, ws_eq_nil _ z1, ws_eq_nil _ z2, ws_eq_nil _ z3]; rfl
  obtain ⟨t0, u0⟩ := zero_tests _ z0
  obtain ⟨t1, u1⟩ := zero_tests _ z1
  obtain ⟨t2, u2⟩ := zero_tests _ z2
  obtain ⟨t3, u3⟩ := zero_tests _ z3
  clear z0 z1 z2 z3
  have i0 := idx0 (.int .u64 s.w0) (.int .u64 s.w1) (.int .u64 s.w2) (.int .u64 s.w3)
  have i1 := idx1 (.int .u64 s.w0) (.int .u64 s.w1) (.int .u64 s.w2) (.int .u64 s.w3)
  have i2 := idx2 (.int .u64 s.w0) (.int .u64 s.w1) (.int .u64 s.w2) (.int .u64 s.w3)
  have i3 := idx3 (.int .u64 s.w0) (.int .u64 s.w1) (.int .u64 s.w2) (.int .u64 s.w3)
  go_enter Tryd.func11, Tryd.ntmps11
  go_wp2
  refine wp_loop_rounds 5 ?_
  rw [rounds_succ]
  go_wp2_with fail
  rw [rounds_succ]
  go_wp2_with fail
  rw [rounds_succ]
  go_wp2_with fail
  rw [rounds_succ]
  go_wp2_with fail
  rw [rounds_succ]
  go_wp2_with fail
  go_ret2
  exact ⟨by rw [HL.out]; rfl, (Below.refl _ _).alloc (Nat.le_refl _) _⟩
theorem setLeast (s : St) (hs : s.Ok) (w : World) (hT : Tab w) :
    Calls Tryd.prog 11 #[.agg #[.int .u64 s.w0, .int .u64 s.w1, .int .u64 s.w2, .int .u64 s.w3]] w fun e w' => e = .returned (.tuple #[.int .u8 ((leastOf s.list).1 : Nat), .bool (leastOf s.list).2]) ∧ Below w.heap.size w w' := by
  by_cases z0 : s.w0 = 0
  · by_cases z1 : s.w1 = 0
    · by_cases z2 : s.w2 = 0
      · by_cases z3 : s.w3 = 0
        · exact least_walkNone s z0 z1 z2 z3 w
        · exact least_walk3 s hs z0 z1 z2 z3 w hT
      · exact least_walk2 s hs z0 z1 z2 w hT
    · exact least_walk1 s hs z0 z1 w hT
  · exact least_walk0 s hs z0 w hT

end Go.Proofs.YthmppooefajpgaaDoor
