/- What the reference's count answers. -/
import Derived.Test.YtdcldhkpmihahaaTextB
namespace Go.Proofs.Ytdcldhkpmihahaa
open Go.RowKit
set_option linter.unusedSimpArgs false
set_option linter.unusedVariables false

/-- A digit? -/
def dig (c : Int) : Prop := 48 ≤ c ∧ c ≤ 57
instance (c : Int) : Decidable (dig c) := by unfold dig; infer_instance
/-- A number of one or two digits up to 20; -1: none. -/
def countS (s : ByteArray) : Int :=
  if s.size = 1 then (if dig (bt s 0) then (bt s 0 : Int) - 48 else -1)
  else if s.size = 2 then (if dig (bt s 0) ∧ dig (bt s 1) ∧ (bt s 0 : Int) ≠ 48 ∧ 10 * ((bt s 0 : Int) - 48) + ((bt s 1 : Int) - 48) ≤ 20 then 10 * ((bt s 0 : Int) - 48) + ((bt s 1 : Int) - 48) else -1)
  else -1
def numTo (s : ByteArray) : Nat → Int
  | 0 => 0
  | k + 1 => 10 * numTo s k + (bt s k : Int) - 48
theorem count_bad {s : ByteArray} {k : Nat} (h : k < s.size) (e : ¬ dig (bt s k)) : countS s = -1 := by
  unfold countS
  split
  · rw [if_neg]; rw [show k = 0 by omega] at e; exact e
  · split
    · rw [if_neg]
      rintro ⟨a, b, _⟩
      rcases (show k = 0 ∨ k = 1 by omega) with rfl | rfl
      · exact e a
      · exact e b
    · rfl
theorem count_end {s : ByteArray} (h : s.size = 1 ∨ (s.size = 2 ∧ ¬ (bt s 0 : Int) = 48)) (e : ∀ j, j < s.size → dig (bt s j)) : countS s = if numTo s s.size > 20 then -1 else numTo s s.size := by
  have d0 := e 0 (by omega)
  unfold countS
  rcases h with h | ⟨h, n⟩
  · rw [if_pos h, if_pos d0, h]
    have : numTo s 1 = (bt s 0 : Int) - 48 := by simp only [numTo]; omega
    rw [this, if_neg]; unfold dig at d0; omega
  · have d1 := e 1 (by omega)
    rw [if_neg (by omega), if_pos h, h]
    have : numTo s 2 = 10 * ((bt s 0 : Int) - 48) + ((bt s 1 : Int) - 48) := by simp only [numTo]; omega
    rw [this]
    by_cases q : 10 * ((bt s 0 : Int) - 48) + ((bt s 1 : Int) - 48) ≤ 20
    · rw [if_pos ⟨d0, d1, n, q⟩, if_neg (by omega)]
    · rw [if_neg (fun x => q x.2.2.2), if_pos (by omega)]
theorem count_bounds (s : ByteArray) : -1 ≤ countS s ∧ countS s ≤ 20 := by
  unfold countS dig; (repeat' split) <;> omega

set_option maxRecDepth 100000 in
set_option maxHeartbeats 2000000 in
theorem refCountMid (s : ByteArray) (h : s.size = 1 ∨ (s.size = 2 ∧ ¬ (bt s 0 : Int) = 48)) (w : World) : Calls Try.prog 37 #[.string s] w fun e w' => e = .returned (.int .i64 (countS s)) ∧ w = w' := by
  have hs : s.size = 1 ∨ s.size = 2 := by omega
  have i0 : ¬ (s.size : Int) < 1 := by omega
  have d0 := txt_f i0
  have i1 : ¬ (2 : Int) < (s.size : Int) := by omega
  have d1 := txt_f i1
  have hlt0 : 0 < s.size := by omega
  obtain ⟨b0, hb0⟩ : ∃ b, (s[0]'hlt0).toNat = b := ⟨_, rfl⟩
  have HB0 : Hid (bt s 0 = b0) := Lib.hid (by rw [← bt_is hlt0]; exact hb0)
  have HH := Lib.hid h
  have en : Hid ((s.size : Int) = 2 ∧ ¬ (b0 : Int) = 48 ∨ ¬ (s.size : Int) = 2) := Lib.hid (by rcases h with h | ⟨h, n⟩; (right; omega); (left; rw [← HB0.out]; exact ⟨by omega, n⟩))
  clear h
  rcases en.out with ⟨z, n⟩ | z
  · have f1 := txt_eq z
    have f2 : (s.size == 2) = true := by rw [beq_iff_eq]; omega
    have f3 := txt_ne n
    have f4 : (b0 == 48) = false := beq_eq_false_iff_ne.2 (by omega)
    go_enter Try.func37, Try.ntmps37
    go_wp2
    go_loop [3, 25] (fun n i => ∃ (k : Nat) (x : Int), k ≤ s.size ∧ i = .int .i64 k ∧ n = .int .i64 x ∧ 0 ≤ x ∧ x ≤ 99 ∧ (k ≤ 1 → x ≤ 9) ∧ (k = 0 → x = 0) ∧ Hid (x = numTo s k) ∧ Hid (∀ j, j < k → dig (bt s j))) (fun _ i => s.size - (intOf i).toNat)
    case atStart => exact ⟨0, 0, Nat.zero_le _, rfl, rfl, by omega, by omega, by omega, by omega, Lib.hid rfl, Lib.hid (by omega)⟩
    case round =>
      obtain ⟨k, x, hk, rfl, rfl, hx0, hx1, hx2, hx3, HX, HD⟩ := hrel
      by_cases hlt : k < s.size
      · obtain ⟨b, hb⟩ : ∃ b, (s[k]'hlt).toNat = b := ⟨_, rfl⟩
        have HBt : Hid (bt s k = b) := Lib.hid (by rw [← bt_is hlt]; exact hb)
        by_cases a1 : (b : Int) < 48
        · have g1 := txt_t a1
          have HV : Hid (countS s = -1) := Lib.hid (count_bad hlt (by rw [HBt.out]; unfold dig; omega))
          go_wp2
          go_ret
          exact ⟨txt_int HV.out.symm, rfl⟩
        · have g1 := txt_f a1
          by_cases a2 : (57 : Int) < (b : Int)
          · have g2 := txt_t a2
            have HV : Hid (countS s = -1) := Lib.hid (count_bad hlt (by rw [HBt.out]; unfold dig; omega))
            go_wp2
            go_ret
            exact ⟨txt_int HV.out.symm, rfl⟩
          · have g2 := txt_f a2
            have HX2 : Hid (10 * x + (b : Int) - 48 = numTo s (k + 1)) := Lib.hid (by simp only [numTo]; rw [← HX.out, HBt.out])
            have HD2 : Hid (∀ j, j < k + 1 → dig (bt s j)) := Lib.hid (fun j hj => by rcases (show j < k ∨ j = k by omega) with q | rfl; exact HD.out j q; rw [HBt.out]; unfold dig; omega)
            go_wp2
            go_round
            case rel => exact ⟨k + 1, 10 * x + (b : Int) - 48, by omega, by go_num, by go_num, by omega, by omega, by omega, by omega, HX2, HD2⟩
            case measure => simp [intOf]; omega
      · obtain rfl : k = s.size := by omega
        have HE : Hid (countS s = if x > 20 then -1 else x) := Lib.hid (by rw [count_end HH.out HD.out, HX.out])
        by_cases a1 : (20 : Int) < x
        · have g1 := txt_t a1
          have HV : Hid (countS s = -1) := Lib.hid (by rw [HE.out, if_pos a1])
          go_wp2
          go_ret
          exact ⟨txt_int HV.out.symm, rfl⟩
        · have g1 := txt_f a1
          have HV : Hid (countS s = x) := Lib.hid (by rw [HE.out, if_neg a1])
          go_wp2
          go_ret
          exact ⟨txt_int HV.out.symm, rfl⟩
  · have f1 := txt_ne z
    have f2 : (s.size == 2) = false := beq_eq_false_iff_ne.2 (by omega)
    go_enter Try.func37, Try.ntmps37
    go_wp2
    go_loop [3, 25] (fun n i => ∃ (k : Nat) (x : Int), k ≤ s.size ∧ i = .int .i64 k ∧ n = .int .i64 x ∧ 0 ≤ x ∧ x ≤ 99 ∧ (k ≤ 1 → x ≤ 9) ∧ (k = 0 → x = 0) ∧ Hid (x = numTo s k) ∧ Hid (∀ j, j < k → dig (bt s j))) (fun _ i => s.size - (intOf i).toNat)
    case atStart => exact ⟨0, 0, Nat.zero_le _, rfl, rfl, by omega, by omega, by omega, by omega, Lib.hid rfl, Lib.hid (by omega)⟩
    case round =>
      obtain ⟨k, x, hk, rfl, rfl, hx0, hx1, hx2, hx3, HX, HD⟩ := hrel
      by_cases hlt : k < s.size
      · obtain ⟨b, hb⟩ : ∃ b, (s[k]'hlt).toNat = b := ⟨_, rfl⟩
        have HBt : Hid (bt s k = b) := Lib.hid (by rw [← bt_is hlt]; exact hb)
        by_cases a1 : (b : Int) < 48
        · have g1 := txt_t a1
          have HV : Hid (countS s = -1) := Lib.hid (count_bad hlt (by rw [HBt.out]; unfold dig; omega))
          go_wp2
          go_ret
          exact ⟨txt_int HV.out.symm, rfl⟩
        · have g1 := txt_f a1
          by_cases a2 : (57 : Int) < (b : Int)
          · have g2 := txt_t a2
            have HV : Hid (countS s = -1) := Lib.hid (count_bad hlt (by rw [HBt.out]; unfold dig; omega))
            go_wp2
            go_ret
            exact ⟨txt_int HV.out.symm, rfl⟩
          · have g2 := txt_f a2
            have HX2 : Hid (10 * x + (b : Int) - 48 = numTo s (k + 1)) := Lib.hid (by simp only [numTo]; rw [← HX.out, HBt.out])
            have HD2 : Hid (∀ j, j < k + 1 → dig (bt s j)) := Lib.hid (fun j hj => by rcases (show j < k ∨ j = k by omega) with q | rfl; exact HD.out j q; rw [HBt.out]; unfold dig; omega)
            go_wp2
            go_round
            case rel => exact ⟨k + 1, 10 * x + (b : Int) - 48, by omega, by go_num, by go_num, by omega, by omega, by omega, by omega, HX2, HD2⟩
            case measure => simp [intOf]; omega
      · obtain rfl : k = s.size := by omega
        have HE : Hid (countS s = if x > 20 then -1 else x) := Lib.hid (by rw [count_end HH.out HD.out, HX.out])
        by_cases a1 : (20 : Int) < x
        · have g1 := txt_t a1
          have HV : Hid (countS s = -1) := Lib.hid (by rw [HE.out, if_pos a1])
          go_wp2
          go_ret
          exact ⟨txt_int HV.out.symm, rfl⟩
        · have g1 := txt_f a1
          have HV : Hid (countS s = x) := Lib.hid (by rw [HE.out, if_neg a1])
          go_wp2
          go_ret
          exact ⟨txt_int HV.out.symm, rfl⟩

set_option maxRecDepth 100000 in
set_option maxHeartbeats 2000000 in
theorem refCount (s : ByteArray) (hs : s.size ≤ 9223372036854775807) (w : World) : Calls Try.prog 37 #[.string s] w fun e w' => e = .returned (.int .i64 (countS s)) ∧ w = w' := by
  by_cases s0 : (s.size : Int) < 1
  · have HV : Hid (countS s = -1) := Lib.hid (by unfold countS; rw [if_neg (by omega), if_neg (by omega)])
    have d0 := txt_t s0
    go_enter Try.func37, Try.ntmps37
    go_wp2
    go_ret
    exact ⟨txt_int HV.out.symm, rfl⟩
  · have d0 := txt_f s0
    by_cases s1 : (2 : Int) < (s.size : Int)
    · have HV : Hid (countS s = -1) := Lib.hid (by unfold countS; rw [if_neg (by omega), if_neg (by omega)])
      have d1 := txt_t s1
      go_enter Try.func37, Try.ntmps37
      go_wp2
      go_ret
      exact ⟨txt_int HV.out.symm, rfl⟩
    · have d1 := txt_f s1
      by_cases h : s.size = 1 ∨ (s.size = 2 ∧ ¬ (bt s 0 : Int) = 48)
      · exact refCountMid s h w
      · have z : (s.size : Int) = 2 := by omega
        have hlt0 : 0 < s.size := by omega
        obtain ⟨b0, hb0⟩ : ∃ b, (s[0]'hlt0).toNat = b := ⟨_, rfl⟩
        have hbt : bt s 0 = b0 := by rw [← bt_is hlt0]; exact hb0
        have q : (b0 : Int) = 48 := by omega
        have HV : Hid (countS s = -1) := Lib.hid (by unfold countS; rw [if_neg (by omega), if_pos (by omega), hbt, if_neg]; rintro ⟨_, _, x, _⟩; exact x q)
        clear h hbt
        have f1 := txt_eq z
        have f2 : (s.size == 2) = true := by rw [beq_iff_eq]; omega
        have f3 := txt_eq q
        have f4 : (b0 == 48) = true := by rw [beq_iff_eq]; omega
        go_enter Try.func37, Try.ntmps37
        go_wp2
        go_ret
        exact ⟨txt_int HV.out.symm, rfl⟩
end Go.Proofs.Ytdcldhkpmihahaa
