/- What the reference's Put answers: the set and one byte more. -/
import Derived.Test.YtdcldhkpmihahaaProg
import Derived.Test.YtdcldhkpmihahaaWords
import Derived.Test.YtdcldhkpmihahaaRefHas
namespace Go.Proofs.Ytdcldhkpmihahaa
open Go.RowKit

theorem word_bit0 (s : St) (b r : Nat) (h : b = 64 * 0 + r) (hr : r < 64) (hb : s.has b = false) : s.w0.testBit r = false := by rw [s.has_of b 0 r h hr] at hb; exact hb
theorem word_bit1 (s : St) (b r : Nat) (h : b = 64 * 1 + r) (hr : r < 64) (hb : s.has b = false) : s.w1.testBit r = false := by rw [s.has_of b 1 r h hr] at hb; exact hb
theorem word_bit2 (s : St) (b r : Nat) (h : b = 64 * 2 + r) (hr : r < 64) (hb : s.has b = false) : s.w2.testBit r = false := by rw [s.has_of b 2 r h hr] at hb; exact hb
theorem word_bit3 (s : St) (b r : Nat) (h : b = 64 * 3 + r) (hr : r < 64) (hb : s.has b = false) : s.w3.testBit r = false := by rw [s.has_of b 3 r h hr] at hb; exact hb

set_option maxHeartbeats 2000000 in
theorem refPut (s : St) (hs : s.Ok) (b : Nat) (hb : b < 256) (w : World) :
    Calls Try.prog 23 #[.agg #[.int .u64 s.w0, .int .u64 s.w1, .int .u64 s.w2, .int .u64 s.w3], .int .i64 b] w fun e w' =>
      e = .returned (.agg #[.int .u64 (s.put b).w0, .int .u64 (s.put b).w1, .int .u64 (s.put b).w2, .int .u64 (s.put b).w3]) ∧ Below w.heap.size w w' := by
  rcases hh : s.has b with _ | _
  · obtain ⟨r, hr⟩ : ∃ r : Nat, r = b % 64 := ⟨_, rfl⟩
    have hm : (b : Int) % 64 = r := by omega
    have hq : b / 64 = 0 ∨ b / 64 = 1 ∨ b / 64 = 2 ∨ b / 64 = 3 := by omega
    have hr' : r < 64 := by omega
    have HH := Lib.hid hh
    clear hh
    rcases hq with hq | hq | hq | hq
    · have hd : (b : Int) / 64 = 0 := by omega
      have HR := Lib.hid (put_at0 s b r hq hr)
      have HA := Lib.hid (wrap_add_pw s.w0 r hs.o0 hr' (word_bit0 s b r (by omega) hr' HH.out))
      clear hr hq
      go_enter Try.func23, Try.ntmps23
      go_wp2_with fail
      refine (refHasV s hs b hb false HH.out _).mono ?_
      rintro e w1 ⟨rfl, hb1⟩
      have hA := ((SetAt.new w 29 s).alloc (.cells #[.int .u64 0, .int .u64 0, .int .u64 0, .int .u64 0] 29)).next hb1
      have hZ := (SetAt.new (w.alloc (.cells #[.int .u64 s.w0, .int .u64 s.w1, .int .u64 s.w2, .int .u64 s.w3] 29)) 29 ⟨0, 0, 0, 0⟩).next hb1
      have hB : Below w.heap.size w w1 := (((Below.refl _ _).alloc (Nat.le_refl _) _).alloc (by simp) _).trans (hb1.mono (by simp; omega))
      clear hb1
      simp only [World.size_alloc] at hZ
      obtain ⟨c0, c1, c2, c3⟩ := hA.cells
      obtain ⟨f0, f1, f2, f3⟩ := hA.frees
      obtain ⟨z0, z1, z2, z3⟩ := hZ.cells
      obtain ⟨y0, y1, y2, y3⟩ := hZ.frees
      have HZ := Lib.hid hZ
      have HA2 := Lib.hid hA
      have HB := Lib.hid hB
      clear hZ hA hB
      go_wp2_with fail
      go_loop [5, 12] (fun x i => ∃ k : Nat, k ≤ r ∧ i = .int .i64 k ∧ x = .int .u64 (pw k : Nat)) (fun _ i => r - (intOf i).toNat)
      case atStart => exact ⟨0, Nat.zero_le _, rfl, rfl⟩
      case round =>
        obtain ⟨k, hk, rfl, rfl⟩ := hrel
        by_cases hlt : k < r
        · go_wp2
          go_round
          case rel => exact ⟨k + 1, by omega, by go_num, by rw [wrap_pw_two k (by omega)]⟩
          case measure => simp [intOf]; omega
        · have hkr : k = r := by omega
          subst hkr
          have hadd := HA.out
          go_wp2
          rw [HR.out]
          have hst : SetAt _ (w.heap.size + 1) 29 ⟨s.w0 ||| pw k, s.w1, s.w2, s.w3⟩ := SetAt.store (s := ⟨0, 0, 0, 0⟩) (At.other HZ.out (p := ⟨w.heap.size, 0, none⟩) (by simp) (.int .u64 (s.w0 ||| pw k : Nat))) ⟨s.w0 ||| pw k, s.w1, s.w2, s.w3⟩
          exact bodyPost_ret (results_cell_row Try.results23 _ _ (w.heap.size + 1) 29 _ (0, 0) _ rfl hst Try.underlying29 rfl (by kernel_rfl)) rfl ⟨rfl, below_store (HB.out.setCell (Nat.le_refl _) _) (Nat.le_succ _) ⟨s.w0 ||| pw k, s.w1, s.w2, s.w3⟩⟩
    · have hd : (b : Int) / 64 = 1 := by omega
      have HR := Lib.hid (put_at1 s b r hq hr)
      have HA := Lib.hid (wrap_add_pw s.w1 r hs.o1 hr' (word_bit1 s b r (by omega) hr' HH.out))
      clear hr hq
      go_enter Try.func23, Try.ntmps23
      go_wp2_with fail
      refine (refHasV s hs b hb false HH.out _).mono ?_
      rintro e w1 ⟨rfl, hb1⟩
      have hA := ((SetAt.new w 29 s).alloc (.cells #[.int .u64 0, .int .u64 0, .int .u64 0, .int .u64 0] 29)).next hb1
      have hZ := (SetAt.new (w.alloc (.cells #[.int .u64 s.w0, .int .u64 s.w1, .int .u64 s.w2, .int .u64 s.w3] 29)) 29 ⟨0, 0, 0, 0⟩).next hb1
      have hB : Below w.heap.size w w1 := (((Below.refl _ _).alloc (Nat.le_refl _) _).alloc (by simp) _).trans (hb1.mono (by simp; omega))
      clear hb1
      simp only [World.size_alloc] at hZ
      obtain ⟨c0, c1, c2, c3⟩ := hA.cells
      obtain ⟨f0, f1, f2, f3⟩ := hA.frees
      obtain ⟨z0, z1, z2, z3⟩ := hZ.cells
      obtain ⟨y0, y1, y2, y3⟩ := hZ.frees
      have HZ := Lib.hid hZ
      have HA2 := Lib.hid hA
      have HB := Lib.hid hB
      clear hZ hA hB
      go_wp2_with fail
      go_loop [5, 12] (fun x i => ∃ k : Nat, k ≤ r ∧ i = .int .i64 k ∧ x = .int .u64 (pw k : Nat)) (fun _ i => r - (intOf i).toNat)
      case atStart => exact ⟨0, Nat.zero_le _, rfl, rfl⟩
      case round =>
        obtain ⟨k, hk, rfl, rfl⟩ := hrel
        by_cases hlt : k < r
        · go_wp2
          go_round
          case rel => exact ⟨k + 1, by omega, by go_num, by rw [wrap_pw_two k (by omega)]⟩
          case measure => simp [intOf]; omega
        · have hkr : k = r := by omega
          subst hkr
          have hadd := HA.out
          go_wp2
          rw [HR.out]
          have hst : SetAt _ (w.heap.size + 1) 29 ⟨s.w0, s.w1 ||| pw k, s.w2, s.w3⟩ := SetAt.store (s := ⟨0, 0, 0, 0⟩) (At.other HZ.out (p := ⟨w.heap.size, 1, none⟩) (by simp) (.int .u64 (s.w1 ||| pw k : Nat))) ⟨s.w0, s.w1 ||| pw k, s.w2, s.w3⟩
          exact bodyPost_ret (results_cell_row Try.results23 _ _ (w.heap.size + 1) 29 _ (0, 0) _ rfl hst Try.underlying29 rfl (by kernel_rfl)) rfl ⟨rfl, below_store (HB.out.setCell (Nat.le_refl _) _) (Nat.le_succ _) ⟨s.w0, s.w1 ||| pw k, s.w2, s.w3⟩⟩
    · have hd : (b : Int) / 64 = 2 := by omega
      have HR := Lib.hid (put_at2 s b r hq hr)
      have HA := Lib.hid (wrap_add_pw s.w2 r hs.o2 hr' (word_bit2 s b r (by omega) hr' HH.out))
      clear hr hq
      go_enter Try.func23, Try.ntmps23
      go_wp2_with fail
      refine (refHasV s hs b hb false HH.out _).mono ?_
      rintro e w1 ⟨rfl, hb1⟩
      have hA := ((SetAt.new w 29 s).alloc (.cells #[.int .u64 0, .int .u64 0, .int .u64 0, .int .u64 0] 29)).next hb1
      have hZ := (SetAt.new (w.alloc (.cells #[.int .u64 s.w0, .int .u64 s.w1, .int .u64 s.w2, .int .u64 s.w3] 29)) 29 ⟨0, 0, 0, 0⟩).next hb1
      have hB : Below w.heap.size w w1 := (((Below.refl _ _).alloc (Nat.le_refl _) _).alloc (by simp) _).trans (hb1.mono (by simp; omega))
      clear hb1
      simp only [World.size_alloc] at hZ
      obtain ⟨c0, c1, c2, c3⟩ := hA.cells
      obtain ⟨f0, f1, f2, f3⟩ := hA.frees
      obtain ⟨z0, z1, z2, z3⟩ := hZ.cells
      obtain ⟨y0, y1, y2, y3⟩ := hZ.frees
      have HZ := Lib.hid hZ
      have HA2 := Lib.hid hA
      have HB := Lib.hid hB
      clear hZ hA hB
      go_wp2_with fail
      go_loop [5, 12] (fun x i => ∃ k : Nat, k ≤ r ∧ i = .int .i64 k ∧ x = .int .u64 (pw k : Nat)) (fun _ i => r - (intOf i).toNat)
      case atStart => exact ⟨0, Nat.zero_le _, rfl, rfl⟩
      case round =>
        obtain ⟨k, hk, rfl, rfl⟩ := hrel
        by_cases hlt : k < r
        · go_wp2
          go_round
          case rel => exact ⟨k + 1, by omega, by go_num, by rw [wrap_pw_two k (by omega)]⟩
          case measure => simp [intOf]; omega
        · have hkr : k = r := by omega
          subst hkr
          have hadd := HA.out
          go_wp2
          rw [HR.out]
          have hst : SetAt _ (w.heap.size + 1) 29 ⟨s.w0, s.w1, s.w2 ||| pw k, s.w3⟩ := SetAt.store (s := ⟨0, 0, 0, 0⟩) (At.other HZ.out (p := ⟨w.heap.size, 2, none⟩) (by simp) (.int .u64 (s.w2 ||| pw k : Nat))) ⟨s.w0, s.w1, s.w2 ||| pw k, s.w3⟩
          exact bodyPost_ret (results_cell_row Try.results23 _ _ (w.heap.size + 1) 29 _ (0, 0) _ rfl hst Try.underlying29 rfl (by kernel_rfl)) rfl ⟨rfl, below_store (HB.out.setCell (Nat.le_refl _) _) (Nat.le_succ _) ⟨s.w0, s.w1, s.w2 ||| pw k, s.w3⟩⟩
    · have hd : (b : Int) / 64 = 3 := by omega
      have HR := Lib.hid (put_at3 s b r hq hr)
      have HA := Lib.hid (wrap_add_pw s.w3 r hs.o3 hr' (word_bit3 s b r (by omega) hr' HH.out))
      clear hr hq
      go_enter Try.func23, Try.ntmps23
      go_wp2_with fail
      refine (refHasV s hs b hb false HH.out _).mono ?_
      rintro e w1 ⟨rfl, hb1⟩
      have hA := ((SetAt.new w 29 s).alloc (.cells #[.int .u64 0, .int .u64 0, .int .u64 0, .int .u64 0] 29)).next hb1
      have hZ := (SetAt.new (w.alloc (.cells #[.int .u64 s.w0, .int .u64 s.w1, .int .u64 s.w2, .int .u64 s.w3] 29)) 29 ⟨0, 0, 0, 0⟩).next hb1
      have hB : Below w.heap.size w w1 := (((Below.refl _ _).alloc (Nat.le_refl _) _).alloc (by simp) _).trans (hb1.mono (by simp; omega))
      clear hb1
      simp only [World.size_alloc] at hZ
      obtain ⟨c0, c1, c2, c3⟩ := hA.cells
      obtain ⟨f0, f1, f2, f3⟩ := hA.frees
      obtain ⟨z0, z1, z2, z3⟩ := hZ.cells
      obtain ⟨y0, y1, y2, y3⟩ := hZ.frees
      have HZ := Lib.hid hZ
      have HA2 := Lib.hid hA
      have HB := Lib.hid hB
      clear hZ hA hB
      go_wp2_with fail
      go_loop [5, 12] (fun x i => ∃ k : Nat, k ≤ r ∧ i = .int .i64 k ∧ x = .int .u64 (pw k : Nat)) (fun _ i => r - (intOf i).toNat)
      case atStart => exact ⟨0, Nat.zero_le _, rfl, rfl⟩
      case round =>
        obtain ⟨k, hk, rfl, rfl⟩ := hrel
        by_cases hlt : k < r
        · go_wp2
          go_round
          case rel => exact ⟨k + 1, by omega, by go_num, by rw [wrap_pw_two k (by omega)]⟩
          case measure => simp [intOf]; omega
        · have hkr : k = r := by omega
          subst hkr
          have hadd := HA.out
          go_wp2
          rw [HR.out]
          have hst : SetAt _ (w.heap.size + 1) 29 ⟨s.w0, s.w1, s.w2, s.w3 ||| pw k⟩ := SetAt.store (s := ⟨0, 0, 0, 0⟩) (At.other HZ.out (p := ⟨w.heap.size, 3, none⟩) (by simp) (.int .u64 (s.w3 ||| pw k : Nat))) ⟨s.w0, s.w1, s.w2, s.w3 ||| pw k⟩
          exact bodyPost_ret (results_cell_row Try.results23 _ _ (w.heap.size + 1) 29 _ (0, 0) _ rfl hst Try.underlying29 rfl (by kernel_rfl)) rfl ⟨rfl, below_store (HB.out.setCell (Nat.le_refl _) _) (Nat.le_succ _) ⟨s.w0, s.w1, s.w2, s.w3 ||| pw k⟩⟩
  · have HP := Lib.hid (put_has s hs b hb hh)
    have HH := Lib.hid hh
    clear hh
    go_enter Try.func23, Try.ntmps23
    go_wp2_with fail
    refine (refHasV s hs b hb true HH.out _).mono ?_
    rintro e w1 ⟨rfl, hb1⟩
    have hA := ((SetAt.new w 29 s).alloc (.cells #[.int .u64 0, .int .u64 0, .int .u64 0, .int .u64 0] 29)).next hb1
    have hZ := (SetAt.new (w.alloc (.cells #[.int .u64 s.w0, .int .u64 s.w1, .int .u64 s.w2, .int .u64 s.w3] 29)) 29 ⟨0, 0, 0, 0⟩).next hb1
    have hB : Below w.heap.size w w1 := (((Below.refl _ _).alloc (Nat.le_refl _) _).alloc (by simp) _).trans (hb1.mono (by simp; omega))
    clear hb1
    simp only [World.size_alloc] at hZ
    obtain ⟨c0, c1, c2, c3⟩ := hA.cells
    obtain ⟨z0, z1, z2, z3⟩ := hZ.cells
    obtain ⟨y0, y1, y2, y3⟩ := hZ.frees
    have HZ := Lib.hid hZ
    have HA2 := Lib.hid hA
    have HB := Lib.hid hB
    clear hZ hA hB
    go_wp2
    rw [HP.out]
    exact bodyPost_ret (results_cell_row Try.results23 _ _ (w.heap.size + 1) 29 _ (0, 0) _ rfl (HZ.out.store _) Try.underlying29 rfl (by kernel_rfl)) rfl ⟨rfl, below_store HB.out (Nat.le_succ _) _⟩

end Go.Proofs.Ytdcldhkpmihahaa
