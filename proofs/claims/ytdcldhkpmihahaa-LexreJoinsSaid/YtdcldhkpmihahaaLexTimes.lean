/- What the program's times answers: the number that a text writes. -/
import Derived.Test.YtdcldhkpmihahaaLexB
import Derived.Test.YtdcldhkpmihahaaTextC
namespace Go.Proofs.Ytdcldhkpmihahaa
open Go.RowKit
set_option linter.unusedSimpArgs false
set_option linter.unusedVariables false

theorem num_nonneg (s : ByteArray) : ∀ k, (∀ j, j < k → dig (bt s j)) → 0 ≤ numTo s k
  | 0, _ => Int.le_refl _
  | k + 1, h => by
    have i := num_nonneg s k (fun j hj => h j (by omega))
    have d := h k (by omega)
    unfold dig at d
    simp only [numTo]
    omega
theorem num_big (s : ByteArray) (h0 : ¬ (bt s 0 : Int) = 48) : ∀ k, (∀ j, j < k + 3 → dig (bt s j)) → 100 ≤ numTo s (k + 3)
  | 0, h => by
    have d0 := h 0 (by omega)
    have d1 := h 1 (by omega)
    have d2 := h 2 (by omega)
    unfold dig at d0 d1 d2
    simp only [numTo]
    omega
  | k + 1, h => by
    have i := num_big s h0 k (fun j hj => h j (by omega))
    have d := h (k + 3) (by omega)
    unfold dig at d
    rw [show k + 1 + 3 = (k + 3) + 1 by omega]
    simp only [numTo] at i ⊢
    omega
theorem count_long {s : ByteArray} (h : 3 ≤ s.size) : countS s = -1 := by unfold countS; rw [if_neg (by omega), if_neg (by omega)]
theorem count_over {s : ByteArray} {k : Nat} (hk : k < s.size) (h : s.size = 1 ∨ ¬ (bt s 0 : Int) = 48) (e : ∀ j, j < k + 1 → dig (bt s j)) (o : 20 < numTo s (k + 1)) : countS s = -1 := by
  by_cases h3 : 3 ≤ s.size
  · exact count_long h3
  · have d0 := e 0 (by omega)
    unfold dig at d0
    by_cases hk0 : k = 0
    · subst hk0; simp only [numTo] at o; omega
    · have h2 : s.size = 2 := by omega
      have hk1 : k = 1 := by omega
      subst hk1
      rw [count_end (Or.inr ⟨h2, by omega⟩) (by rw [h2]; exact e), h2, if_pos o]
theorem count_full {s : ByteArray} (h1 : 1 ≤ s.size) (h : s.size = 1 ∨ ¬ (bt s 0 : Int) = 48) (e : ∀ j, j < s.size → dig (bt s j)) (o : numTo s s.size ≤ 20) : countS s = numTo s s.size := by
  by_cases h3 : 3 ≤ s.size
  · exfalso
    have := num_big s (by omega) (s.size - 3) (by rw [show s.size - 3 + 3 = s.size by omega]; exact e)
    rw [show s.size - 3 + 3 = s.size by omega] at this
    omega
  · rw [count_end (by omega) e, if_neg (by omega)]
def timesN (s : ByteArray) : Int := if countS s < 0 then 0 else countS s
def timesB (s : ByteArray) : Bool := decide (0 ≤ countS s)
theorem times_no {s : ByteArray} (h : countS s = -1) : timesN s = 0 ∧ timesB s = false := by unfold timesN timesB; rw [h]; exact ⟨rfl, rfl⟩
theorem times_yes {s : ByteArray} {x : Int} (h : countS s = x) (hx : 0 ≤ x) : timesN s = x ∧ timesB s = true := by unfold timesN timesB; rw [h, if_neg (by omega), decide_eq_true hx]; exact ⟨rfl, rfl⟩
theorem txt_times {s : ByteArray} {x : Int} {v : Bool} (h : timesN s = x ∧ timesB s = v) : Ending.returned (.tuple #[.int .i64 x, .bool v]) = .returned (.tuple #[.int .i64 (timesN s), .bool (timesB s)]) := by rw [h.1, h.2]

set_option maxRecDepth 100000 in
set_option maxHeartbeats 4000000 in
theorem lexTimes (s : ByteArray) (hs : s.size ≤ 20000) (w : World) : Calls Try.prog 48 #[.string s] w fun e w' => e = .returned (.tuple #[.int .i64 (timesN s), .bool (timesB s)]) ∧ w = w' := by
  by_cases h0 : s.size = 0
  · have he : s = ⟨#[]⟩ := by
      cases s with
      | mk a => cases a with
        | mk l => cases l with
          | nil => rfl
          | cons x r => simp [ByteArray.size] at h0
    subst he
    have HV : Hid (timesN ⟨#[]⟩ = 0 ∧ timesB ⟨#[]⟩ = false) := Lib.hid ⟨rfl, rfl⟩
    go_enter Try.func48, Try.ntmps48
    go_wp2
    go_ret2
    exact ⟨txt_times HV.out, rfl⟩
  have h1 : 1 ≤ s.size := by omega
  have hlt0 : 0 < s.size := h1
  have ne0 := text_some hlt0
  obtain ⟨b0, hb0⟩ : ∃ b, (s[0]'hlt0).toNat = b := ⟨_, rfl⟩
  have HB0 : Hid (bt s 0 = b0) := Lib.hid (by rw [← bt_is hlt0]; exact hb0)
  by_cases hl1 : (1 : Int) < (s.size : Int)
  · have d1 := txt_t hl1
    have d1n := txt_t (show 1 < s.size by omega)
    by_cases hz : b0 = 48
    · have f1 : ((b0 : Int) == 48) = true := by rw [beq_iff_eq]; omega
      have f2 : (b0 == 48) = true := by rw [beq_iff_eq]; omega
      have HV := Lib.hid (times_no (s := s) (by
        by_cases h3 : 3 ≤ s.size
        · exact count_long h3
        · unfold countS; rw [if_neg (by omega), if_pos (by omega), HB0.out, if_neg]; rintro ⟨_, _, x, _⟩; exact x (by omega)))
      go_enter Try.func48, Try.ntmps48
      go_wp2
      go_ret2
      exact ⟨txt_times HV.out, rfl⟩
    have f1 : ((b0 : Int) == 48) = false := beq_eq_false_iff_ne.2 (by omega)
    have f2 : (b0 == 48) = false := beq_eq_false_iff_ne.2 hz
    have HH : Hid (s.size = 1 ∨ ¬ (bt s 0 : Int) = 48) := Lib.hid (Or.inr (by rw [HB0.out]; omega))
    go_enter Try.func48, Try.ntmps48
    go_wp2
    go_loop [4, 20] (fun n i => ∃ (k : Nat) (x : Int), k ≤ s.size ∧ i = .int .i64 k ∧ n = .int .i64 x ∧ 0 ≤ x ∧ x ≤ 20 ∧ Hid (x = numTo s k) ∧ Hid (∀ j, j < k → dig (bt s j))) (fun _ i => s.size - (intOf i).toNat)
    case atStart => exact ⟨0, 0, Nat.zero_le _, rfl, rfl, by omega, by omega, Lib.hid rfl, Lib.hid (by omega)⟩
    case round =>
      obtain ⟨k, x, hk, rfl, rfl, hx0, hx1, HX, HD⟩ := hrel
      by_cases hlt : k < s.size
      · obtain ⟨b, hb⟩ : ∃ b, (s[k]'hlt).toNat = b := ⟨_, rfl⟩
        have hl : b < 256 := by rw [← hb]; exact UInt8.toNat_lt _
        have HBt : Hid (bt s k = b) := Lib.hid (by rw [← bt_is hlt]; exact hb)
        by_cases hg : 48 ≤ b ∧ b ≤ 57
        · have HG : Hid (digS b = true) := Lib.hid (decide_eq_true (by omega))
          have w1 : IntKind.u8.wrap ((b : Int) - 48) = (b : Int) - 48 := by rw [IntKind.wrap_u8']; omega
          have w2 : IntKind.i64.wrap ((b : Int) - 48) = (b : Int) - 48 := by rw [IntKind.wrap_i64]; omega
          have HX2 : Hid (10 * x + ((b : Int) - 48) = numTo s (k + 1)) := Lib.hid (by simp only [numTo]; rw [← HX.out, HBt.out]; omega)
          have HD2 : Hid (∀ j, j < k + 1 → dig (bt s j)) := Lib.hid (fun j hj => by rcases (show j < k ∨ j = k by omega) with q | rfl; exact HD.out j q; rw [HBt.out]; unfold dig; omega)
          by_cases a1 : (20 : Int) < 10 * x + ((b : Int) - 48)
          · have g1 := txt_t a1
            have HV := Lib.hid (times_no (count_over hlt HH.out HD2.out (by rw [← HX2.out]; exact a1)))
            go_wp2_with fail
            refine (lexDigitV b hl true HG.out _).mono ?_
            rintro e w3 ⟨rfl, rfl⟩
            go_wp2
            go_ret2
            exact ⟨txt_times HV.out, rfl⟩
          · have g1 := txt_f a1
            go_wp2_with fail
            refine (lexDigitV b hl true HG.out _).mono ?_
            rintro e w3 ⟨rfl, rfl⟩
            go_wp2
            go_round
            case rel => exact ⟨k + 1, 10 * x + ((b : Int) - 48), by omega, by go_num, by go_num, by omega, by omega, HX2, HD2⟩
            case measure => simp [intOf]; omega
        · have HG : Hid (digS b = false) := Lib.hid (decide_eq_false (by omega))
          have HV := Lib.hid (times_no (count_bad hlt (by rw [HBt.out]; unfold dig; omega)))
          go_wp2_with fail
          refine (lexDigitV b hl false HG.out _).mono ?_
          rintro e w3 ⟨rfl, rfl⟩
          go_wp2
          go_ret2
          exact ⟨txt_times HV.out, rfl⟩
      · obtain rfl : k = s.size := by omega
        have HV := Lib.hid (times_yes (count_full h1 HH.out HD.out (by rw [← HX.out]; exact hx1)) (by rw [← HX.out]; exact hx0))
        rw [← HX.out] at HV
        go_wp2
        go_ret2
        exact ⟨txt_times HV.out, rfl⟩
  · have d1 := txt_f hl1
    have d1n := txt_f (show ¬ 1 < s.size by omega)
    have HH : Hid (s.size = 1 ∨ ¬ (bt s 0 : Int) = 48) := Lib.hid (Or.inl (by omega))
    go_enter Try.func48, Try.ntmps48
    go_wp2
    go_loop [4, 20] (fun n i => ∃ (k : Nat) (x : Int), k ≤ s.size ∧ i = .int .i64 k ∧ n = .int .i64 x ∧ 0 ≤ x ∧ x ≤ 20 ∧ Hid (x = numTo s k) ∧ Hid (∀ j, j < k → dig (bt s j))) (fun _ i => s.size - (intOf i).toNat)
    case atStart => exact ⟨0, 0, Nat.zero_le _, rfl, rfl, by omega, by omega, Lib.hid rfl, Lib.hid (by omega)⟩
    case round =>
      obtain ⟨k, x, hk, rfl, rfl, hx0, hx1, HX, HD⟩ := hrel
      by_cases hlt : k < s.size
      · obtain ⟨b, hb⟩ : ∃ b, (s[k]'hlt).toNat = b := ⟨_, rfl⟩
        have hl : b < 256 := by rw [← hb]; exact UInt8.toNat_lt _
        have HBt : Hid (bt s k = b) := Lib.hid (by rw [← bt_is hlt]; exact hb)
        by_cases hg : 48 ≤ b ∧ b ≤ 57
        · have HG : Hid (digS b = true) := Lib.hid (decide_eq_true (by omega))
          have w1 : IntKind.u8.wrap ((b : Int) - 48) = (b : Int) - 48 := by rw [IntKind.wrap_u8']; omega
          have w2 : IntKind.i64.wrap ((b : Int) - 48) = (b : Int) - 48 := by rw [IntKind.wrap_i64]; omega
          have HX2 : Hid (10 * x + ((b : Int) - 48) = numTo s (k + 1)) := Lib.hid (by simp only [numTo]; rw [← HX.out, HBt.out]; omega)
          have HD2 : Hid (∀ j, j < k + 1 → dig (bt s j)) := Lib.hid (fun j hj => by rcases (show j < k ∨ j = k by omega) with q | rfl; exact HD.out j q; rw [HBt.out]; unfold dig; omega)
          by_cases a1 : (20 : Int) < 10 * x + ((b : Int) - 48)
          · have g1 := txt_t a1
            have HV := Lib.hid (times_no (count_over hlt HH.out HD2.out (by rw [← HX2.out]; exact a1)))
            go_wp2_with fail
            refine (lexDigitV b hl true HG.out _).mono ?_
            rintro e w3 ⟨rfl, rfl⟩
            go_wp2
            go_ret2
            exact ⟨txt_times HV.out, rfl⟩
          · have g1 := txt_f a1
            go_wp2_with fail
            refine (lexDigitV b hl true HG.out _).mono ?_
            rintro e w3 ⟨rfl, rfl⟩
            go_wp2
            go_round
            case rel => exact ⟨k + 1, 10 * x + ((b : Int) - 48), by omega, by go_num, by go_num, by omega, by omega, HX2, HD2⟩
            case measure => simp [intOf]; omega
        · have HG : Hid (digS b = false) := Lib.hid (decide_eq_false (by omega))
          have HV := Lib.hid (times_no (count_bad hlt (by rw [HBt.out]; unfold dig; omega)))
          go_wp2_with fail
          refine (lexDigitV b hl false HG.out _).mono ?_
          rintro e w3 ⟨rfl, rfl⟩
          go_wp2
          go_ret2
          exact ⟨txt_times HV.out, rfl⟩
      · obtain rfl : k = s.size := by omega
        have HV := Lib.hid (times_yes (count_full h1 HH.out HD.out (by rw [← HX.out]; exact hx1)) (by rw [← HX.out]; exact hx0))
        rw [← HX.out] at HV
        go_wp2
        go_ret2
        exact ⟨txt_times HV.out, rfl⟩
theorem lexTimesV (s : ByteArray) (hs : s.size ≤ 20000) (x : Int) (v : Bool) (hx : timesN s = x) (hv : timesB s = v) (w : World) : Calls Try.prog 48 #[.string s] w fun e w' => e = .returned (.tuple #[.int .i64 x, .bool v]) ∧ w = w' := by
  rw [← hx, ← hv]; exact lexTimes s hs w
end Go.Proofs.Ytdcldhkpmihahaa
