/- What the reference's Has answers, of any set and byte. -/
import Derived.Test.YtcghclikkeajfaaProg
import Derived.Test.YtcghclikkeajfaaMa
namespace Go.Proofs.Ytcghclikkeajfaa
open Go.RowKit

theorem ret_bool {a b : Bool} (h : a = b) : Ending.returned (.bool a) = .returned (.bool b) := by rw [h]
theorem St.has_of (s : St) (b q r : Nat) (hb : b = 64 * q + r) (hr : r < 64) : s.has b = (s.word q).testBit r := by
  unfold St.has; rw [show b / 64 = q from by omega, show b % 64 = r from by omega]

set_option maxHeartbeats 400000 in
theorem refHas (s : St) (hs : s.Ok) (b : Nat) (hb : b < 256) (w : World) :
    Calls Try.prog 40 #[.agg #[.int .u64 s.w0, .int .u64 s.w1, .int .u64 s.w2, .int .u64 s.w3], .int .i64 b] w fun e w' => e = .returned (.bool (s.has b)) ∧ Below w.heap.size w w' := by
  obtain ⟨r, hr⟩ : ∃ r : Nat, r = b % 64 := ⟨_, rfl⟩
  have hm : (b : Int) % 64 = r := by omega
  have hq : b / 64 = 0 ∨ b / 64 = 1 ∨ b / 64 = 2 ∨ b / 64 = 3 := by omega
  have hr' : r < 64 := by omega
  rcases hq with hq | hq | hq | hq
  · have hd : (b : Int) / 64 = 0 := by omega
    have HR := Lib.hid (s.has_of b 0 r (by omega) hr')
    clear hr hq
    go_enter Try.func40, Try.ntmps40
    go_wp2
    go_loop [5, 12] (fun x i => ∃ k : Nat, k ≤ r ∧ i = .int .i64 k ∧ x = .int .u64 (hv s.w0 k : Nat)) (fun _ i => r - (intOf i).toNat)
    case atStart => exact ⟨0, Nat.zero_le _, rfl, by rw [hv_zero]⟩
    case round =>
      obtain ⟨k, hk, rfl, rfl⟩ := hrel
      by_cases hlt : k < r
      · go_wp2
        go_round
        case rel => exact ⟨k + 1, by omega, by go_num, by rw [hv_half' _ _ hs.o0]⟩
        case measure => simp [intOf]; omega
      · have hkr : k = r := by omega
        subst hkr
        go_wp2
        go_ret
        exact ⟨ret_bool ((hv_bit' _ _).trans HR.out.symm), (Below.refl _ _).alloc (Nat.le_refl _) _⟩
  · have hd : (b : Int) / 64 = 1 := by omega
    have HR := Lib.hid (s.has_of b 1 r (by omega) hr')
    clear hr hq
    go_enter Try.func40, Try.ntmps40
    go_wp2
    go_loop [5, 12] (fun x i => ∃ k : Nat, k ≤ r ∧ i = .int .i64 k ∧ x = .int .u64 (hv s.w1 k : Nat)) (fun _ i => r - (intOf i).toNat)
    case atStart => exact ⟨0, Nat.zero_le _, rfl, by rw [hv_zero]⟩
    case round =>
      obtain ⟨k, hk, rfl, rfl⟩ := hrel
      by_cases hlt : k < r
      · go_wp2
        go_round
        case rel => exact ⟨k + 1, by omega, by go_num, by rw [hv_half' _ _ hs.o1]⟩
        case measure => simp [intOf]; omega
      · have hkr : k = r := by omega
        subst hkr
        go_wp2
        go_ret
        exact ⟨ret_bool ((hv_bit' _ _).trans HR.out.symm), (Below.refl _ _).alloc (Nat.le_refl _) _⟩
  · have hd : (b : Int) / 64 = 2 := by omega
    have HR := Lib.hid (s.has_of b 2 r (by omega) hr')
    clear hr hq
    go_enter Try.func40, Try.ntmps40
    go_wp2
    go_loop [5, 12] (fun x i => ∃ k : Nat, k ≤ r ∧ i = .int .i64 k ∧ x = .int .u64 (hv s.w2 k : Nat)) (fun _ i => r - (intOf i).toNat)
    case atStart => exact ⟨0, Nat.zero_le _, rfl, by rw [hv_zero]⟩
    case round =>
      obtain ⟨k, hk, rfl, rfl⟩ := hrel
      by_cases hlt : k < r
      · go_wp2
        go_round
        case rel => exact ⟨k + 1, by omega, by go_num, by rw [hv_half' _ _ hs.o2]⟩
        case measure => simp [intOf]; omega
      · have hkr : k = r := by omega
        subst hkr
        go_wp2
        go_ret
        exact ⟨ret_bool ((hv_bit' _ _).trans HR.out.symm), (Below.refl _ _).alloc (Nat.le_refl _) _⟩
  · have hd : (b : Int) / 64 = 3 := by omega
    have HR := Lib.hid (s.has_of b 3 r (by omega) hr')
    clear hr hq
    go_enter Try.func40, Try.ntmps40
    go_wp2
    go_loop [5, 12] (fun x i => ∃ k : Nat, k ≤ r ∧ i = .int .i64 k ∧ x = .int .u64 (hv s.w3 k : Nat)) (fun _ i => r - (intOf i).toNat)
    case atStart => exact ⟨0, Nat.zero_le _, rfl, by rw [hv_zero]⟩
    case round =>
      obtain ⟨k, hk, rfl, rfl⟩ := hrel
      by_cases hlt : k < r
      · go_wp2
        go_round
        case rel => exact ⟨k + 1, by omega, by go_num, by rw [hv_half' _ _ hs.o3]⟩
        case measure => simp [intOf]; omega
      · have hkr : k = r := by omega
        subst hkr
        go_wp2
        go_ret
        exact ⟨ret_bool ((hv_bit' _ _).trans HR.out.symm), (Below.refl _ _).alloc (Nat.le_refl _) _⟩

theorem refHasV (s : St) (hs : s.Ok) (b : Nat) (hb : b < 256) (v : Bool) (hv : s.has b = v) (w : World) :
    Calls Try.prog 40 #[.agg #[.int .u64 s.w0, .int .u64 s.w1, .int .u64 s.w2, .int .u64 s.w3], .int .i64 b] w fun e w' => e = .returned (.bool v) ∧ Below w.heap.size w w' := by
  rw [← hv]; exact refHas s hs b hb w

end Go.Proofs.Ytcghclikkeajfaa
