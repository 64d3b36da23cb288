/- What the program's isLetter, isDigit, isBlank, sign and hexDigit answer. -/
import Derived.Test.YtdcldhkpmihahaaTextD
namespace Go.Proofs.Ytdcldhkpmihahaa
open Go.RowKit
set_option linter.unusedSimpArgs false
set_option linter.unusedVariables false

set_option maxRecDepth 100000 in
set_option maxHeartbeats 4000000 in
theorem lexLetter (b : Nat) (hb : b < 256) (w : World) :
    Calls Try.prog 26 #[.int .u8 b] w fun e w' => e = .returned (.bool (alphaS b)) ∧ w = w' := by
  by_cases q1 : (65 : Int) ≤ b
  · have d2 := txt_t q1
    by_cases q3 : (b : Int) ≤ 90
    · have d4 := txt_t q3
      have HV : Hid (alphaS b = true) := Lib.hid (decide_eq_true (by omega))
      go_enter Try.func26, Try.ntmps26
      go_wp2
      go_ret
      exact ⟨txt_bool HV.out.symm, rfl⟩
    · have d4 := txt_f q3
      by_cases q5 : (97 : Int) ≤ b
      · have d6 := txt_t q5
        by_cases q7 : (b : Int) ≤ 122
        · have d8 := txt_t q7
          have HV : Hid (alphaS b = true) := Lib.hid (decide_eq_true (by omega))
          go_enter Try.func26, Try.ntmps26
          go_wp2
          go_ret
          exact ⟨txt_bool HV.out.symm, rfl⟩
        · have d8 := txt_f q7
          have HV : Hid (alphaS b = false) := Lib.hid (decide_eq_false (by omega))
          go_enter Try.func26, Try.ntmps26
          go_wp2
          go_ret
          exact ⟨txt_bool HV.out.symm, rfl⟩
      · have d6 := txt_f q5
        have HV : Hid (alphaS b = false) := Lib.hid (decide_eq_false (by omega))
        go_enter Try.func26, Try.ntmps26
        go_wp2
        go_ret
        exact ⟨txt_bool HV.out.symm, rfl⟩
  · have d2 := txt_f q1
    by_cases q9 : (97 : Int) ≤ b
    · have d10 := txt_t q9
      by_cases q11 : (b : Int) ≤ 122
      · have d12 := txt_t q11
        have HV : Hid (alphaS b = true) := Lib.hid (decide_eq_true (by omega))
        go_enter Try.func26, Try.ntmps26
        go_wp2
        go_ret
        exact ⟨txt_bool HV.out.symm, rfl⟩
      · have d12 := txt_f q11
        have HV : Hid (alphaS b = false) := Lib.hid (decide_eq_false (by omega))
        go_enter Try.func26, Try.ntmps26
        go_wp2
        go_ret
        exact ⟨txt_bool HV.out.symm, rfl⟩
    · have d10 := txt_f q9
      have HV : Hid (alphaS b = false) := Lib.hid (decide_eq_false (by omega))
      go_enter Try.func26, Try.ntmps26
      go_wp2
      go_ret
      exact ⟨txt_bool HV.out.symm, rfl⟩

theorem lexLetterV (b : Nat) (hb : b < 256) (v : Bool) (hv : alphaS b = v) (w : World) : Calls Try.prog 26 #[.int .u8 b] w fun e w' => e = .returned (.bool v) ∧ w = w' := by rw [← hv]; exact lexLetter b hb w
def digS (c : Int) : Bool := decide (48 ≤ c ∧ c ≤ 57)
set_option maxRecDepth 100000 in
set_option maxHeartbeats 4000000 in
theorem lexDigit (b : Nat) (hb : b < 256) (w : World) :
    Calls Try.prog 27 #[.int .u8 b] w fun e w' => e = .returned (.bool (digS b)) ∧ w = w' := by
  by_cases q13 : (48 : Int) ≤ b
  · have d14 := txt_t q13
    by_cases q15 : (b : Int) ≤ 57
    · have d16 := txt_t q15
      have HV : Hid (digS b = true) := Lib.hid (decide_eq_true (by omega))
      go_enter Try.func27, Try.ntmps27
      go_wp2
      go_ret
      exact ⟨txt_bool HV.out.symm, rfl⟩
    · have d16 := txt_f q15
      have HV : Hid (digS b = false) := Lib.hid (decide_eq_false (by omega))
      go_enter Try.func27, Try.ntmps27
      go_wp2
      go_ret
      exact ⟨txt_bool HV.out.symm, rfl⟩
  · have d14 := txt_f q13
    have HV : Hid (digS b = false) := Lib.hid (decide_eq_false (by omega))
    go_enter Try.func27, Try.ntmps27
    go_wp2
    go_ret
    exact ⟨txt_bool HV.out.symm, rfl⟩

theorem lexDigitV (b : Nat) (hb : b < 256) (v : Bool) (hv : digS b = v) (w : World) : Calls Try.prog 27 #[.int .u8 b] w fun e w' => e = .returned (.bool v) ∧ w = w' := by rw [← hv]; exact lexDigit b hb w
def blankS (b : Nat) : Bool := decide (b = 32 ∨ b = 10 ∨ b = 9 ∨ b = 13)
set_option maxRecDepth 100000 in
set_option maxHeartbeats 4000000 in
theorem lexBlank (b : Nat) (hb : b < 256) (w : World) :
    Calls Try.prog 8 #[.int .u8 b] w fun e w' => e = .returned (.bool (blankS b)) ∧ w = w' := by
  by_cases q17 : b = 32
  · have e18i : ((b : Int) == 32) = true := by rw [beq_iff_eq]; omega
    have e18n : (b == 32) = true := by rw [beq_iff_eq]; omega
    have e18j : ((b : Int) != 32) = false := by rw [bne, e18i]; rfl
    have e18m : (b != 32) = false := by rw [bne, e18n]; rfl
    have HV : Hid (blankS b = true) := Lib.hid (decide_eq_true (by omega))
    go_enter Try.func8, Try.ntmps8
    go_wp2
    go_ret
    exact ⟨txt_bool HV.out.symm, rfl⟩
  · have e18i : ((b : Int) == 32) = false := beq_eq_false_iff_ne.2 (by omega)
    have e18n : (b == 32) = false := beq_eq_false_iff_ne.2 (by omega)
    have e18j : ((b : Int) != 32) = true := by rw [bne, e18i]; rfl
    have e18m : (b != 32) = true := by rw [bne, e18n]; rfl
    by_cases q19 : b = 10
    · have e20i : ((b : Int) == 10) = true := by rw [beq_iff_eq]; omega
      have e20n : (b == 10) = true := by rw [beq_iff_eq]; omega
      have e20j : ((b : Int) != 10) = false := by rw [bne, e20i]; rfl
      have e20m : (b != 10) = false := by rw [bne, e20n]; rfl
      have HV : Hid (blankS b = true) := Lib.hid (decide_eq_true (by omega))
      go_enter Try.func8, Try.ntmps8
      go_wp2
      go_ret
      exact ⟨txt_bool HV.out.symm, rfl⟩
    · have e20i : ((b : Int) == 10) = false := beq_eq_false_iff_ne.2 (by omega)
      have e20n : (b == 10) = false := beq_eq_false_iff_ne.2 (by omega)
      have e20j : ((b : Int) != 10) = true := by rw [bne, e20i]; rfl
      have e20m : (b != 10) = true := by rw [bne, e20n]; rfl
      by_cases q21 : b = 9
      · have e22i : ((b : Int) == 9) = true := by rw [beq_iff_eq]; omega
        have e22n : (b == 9) = true := by rw [beq_iff_eq]; omega
        have e22j : ((b : Int) != 9) = false := by rw [bne, e22i]; rfl
        have e22m : (b != 9) = false := by rw [bne, e22n]; rfl
        have HV : Hid (blankS b = true) := Lib.hid (decide_eq_true (by omega))
        go_enter Try.func8, Try.ntmps8
        go_wp2
        go_ret
        exact ⟨txt_bool HV.out.symm, rfl⟩
      · have e22i : ((b : Int) == 9) = false := beq_eq_false_iff_ne.2 (by omega)
        have e22n : (b == 9) = false := beq_eq_false_iff_ne.2 (by omega)
        have e22j : ((b : Int) != 9) = true := by rw [bne, e22i]; rfl
        have e22m : (b != 9) = true := by rw [bne, e22n]; rfl
        by_cases q23 : b = 13
        · have e24i : ((b : Int) == 13) = true := by rw [beq_iff_eq]; omega
          have e24n : (b == 13) = true := by rw [beq_iff_eq]; omega
          have e24j : ((b : Int) != 13) = false := by rw [bne, e24i]; rfl
          have e24m : (b != 13) = false := by rw [bne, e24n]; rfl
          have HV : Hid (blankS b = true) := Lib.hid (decide_eq_true (by omega))
          go_enter Try.func8, Try.ntmps8
          go_wp2
          go_ret
          exact ⟨txt_bool HV.out.symm, rfl⟩
        · have e24i : ((b : Int) == 13) = false := beq_eq_false_iff_ne.2 (by omega)
          have e24n : (b == 13) = false := beq_eq_false_iff_ne.2 (by omega)
          have e24j : ((b : Int) != 13) = true := by rw [bne, e24i]; rfl
          have e24m : (b != 13) = true := by rw [bne, e24n]; rfl
          have HV : Hid (blankS b = false) := Lib.hid (decide_eq_false (by omega))
          go_enter Try.func8, Try.ntmps8
          go_wp2
          go_ret
          exact ⟨txt_bool HV.out.symm, rfl⟩

theorem lexBlankV (b : Nat) (hb : b < 256) (v : Bool) (hv : blankS b = v) (w : World) : Calls Try.prog 8 #[.int .u8 b] w fun e w' => e = .returned (.bool v) ∧ w = w' := by rw [← hv]; exact lexBlank b hb w
def lexSignS (c : Nat) : Int := if c = 41 then 3 else if c = 124 then 4 else if c = 38 then 5 else if c = 126 then 6 else if c = 42 then 7 else if c = 43 then 8 else if c = 63 then 9 else if c = 94 then 16 else if c = 36 then 17 else 0
set_option maxRecDepth 100000 in
set_option maxHeartbeats 4000000 in
theorem lexSign (b : Nat) (hb : b < 256) (w : World) :
    Calls Try.prog 19 #[.int .u8 b] w fun e w' => e = .returned (.int .i64 (lexSignS b)) ∧ w = w' := by
  by_cases q25 : b = 41
  · have e26i : ((b : Int) == 41) = true := by rw [beq_iff_eq]; omega
    have e26n : (b == 41) = true := by rw [beq_iff_eq]; omega
    have e26j : ((b : Int) != 41) = false := by rw [bne, e26i]; rfl
    have e26m : (b != 41) = false := by rw [bne, e26n]; rfl
    have HV : Hid (lexSignS b = 3) := Lib.hid (by unfold lexSignS; (repeat' split) <;> omega)
    go_enter Try.func19, Try.ntmps19
    go_wp2
    go_ret
    exact ⟨txt_int HV.out.symm, rfl⟩
  · have e26i : ((b : Int) == 41) = false := beq_eq_false_iff_ne.2 (by omega)
    have e26n : (b == 41) = false := beq_eq_false_iff_ne.2 (by omega)
    have e26j : ((b : Int) != 41) = true := by rw [bne, e26i]; rfl
    have e26m : (b != 41) = true := by rw [bne, e26n]; rfl
    by_cases q27 : b = 124
    · have e28i : ((b : Int) == 124) = true := by rw [beq_iff_eq]; omega
      have e28n : (b == 124) = true := by rw [beq_iff_eq]; omega
      have e28j : ((b : Int) != 124) = false := by rw [bne, e28i]; rfl
      have e28m : (b != 124) = false := by rw [bne, e28n]; rfl
      have HV : Hid (lexSignS b = 4) := Lib.hid (by unfold lexSignS; (repeat' split) <;> omega)
      go_enter Try.func19, Try.ntmps19
      go_wp2
      go_ret
      exact ⟨txt_int HV.out.symm, rfl⟩
    · have e28i : ((b : Int) == 124) = false := beq_eq_false_iff_ne.2 (by omega)
      have e28n : (b == 124) = false := beq_eq_false_iff_ne.2 (by omega)
      have e28j : ((b : Int) != 124) = true := by rw [bne, e28i]; rfl
      have e28m : (b != 124) = true := by rw [bne, e28n]; rfl
      by_cases q29 : b = 38
      · have e30i : ((b : Int) == 38) = true := by rw [beq_iff_eq]; omega
        have e30n : (b == 38) = true := by rw [beq_iff_eq]; omega
        have e30j : ((b : Int) != 38) = false := by rw [bne, e30i]; rfl
        have e30m : (b != 38) = false := by rw [bne, e30n]; rfl
        have HV : Hid (lexSignS b = 5) := Lib.hid (by unfold lexSignS; (repeat' split) <;> omega)
        go_enter Try.func19, Try.ntmps19
        go_wp2
        go_ret
        exact ⟨txt_int HV.out.symm, rfl⟩
      · have e30i : ((b : Int) == 38) = false := beq_eq_false_iff_ne.2 (by omega)
        have e30n : (b == 38) = false := beq_eq_false_iff_ne.2 (by omega)
        have e30j : ((b : Int) != 38) = true := by rw [bne, e30i]; rfl
        have e30m : (b != 38) = true := by rw [bne, e30n]; rfl
        by_cases q31 : b = 126
        · have e32i : ((b : Int) == 126) = true := by rw [beq_iff_eq]; omega
          have e32n : (b == 126) = true := by rw [beq_iff_eq]; omega
          have e32j : ((b : Int) != 126) = false := by rw [bne, e32i]; rfl
          have e32m : (b != 126) = false := by rw [bne, e32n]; rfl
          have HV : Hid (lexSignS b = 6) := Lib.hid (by unfold lexSignS; (repeat' split) <;> omega)
          go_enter Try.func19, Try.ntmps19
          go_wp2
          go_ret
          exact ⟨txt_int HV.out.symm, rfl⟩
        · have e32i : ((b : Int) == 126) = false := beq_eq_false_iff_ne.2 (by omega)
          have e32n : (b == 126) = false := beq_eq_false_iff_ne.2 (by omega)
          have e32j : ((b : Int) != 126) = true := by rw [bne, e32i]; rfl
          have e32m : (b != 126) = true := by rw [bne, e32n]; rfl
          by_cases q33 : b = 42
          · have e34i : ((b : Int) == 42) = true := by rw [beq_iff_eq]; omega
            have e34n : (b == 42) = true := by rw [beq_iff_eq]; omega
            have e34j : ((b : Int) != 42) = false := by rw [bne, e34i]; rfl
            have e34m : (b != 42) = false := by rw [bne, e34n]; rfl
            have HV : Hid (lexSignS b = 7) := Lib.hid (by unfold lexSignS; (repeat' split) <;> omega)
            go_enter Try.func19, Try.ntmps19
            go_wp2
            go_ret
            exact ⟨txt_int HV.out.symm, rfl⟩
          · have e34i : ((b : Int) == 42) = false := beq_eq_false_iff_ne.2 (by omega)
            have e34n : (b == 42) = false := beq_eq_false_iff_ne.2 (by omega)
            have e34j : ((b : Int) != 42) = true := by rw [bne, e34i]; rfl
            have e34m : (b != 42) = true := by rw [bne, e34n]; rfl
            by_cases q35 : b = 43
            · have e36i : ((b : Int) == 43) = true := by rw [beq_iff_eq]; omega
              have e36n : (b == 43) = true := by rw [beq_iff_eq]; omega
              have e36j : ((b : Int) != 43) = false := by rw [bne, e36i]; rfl
              have e36m : (b != 43) = false := by rw [bne, e36n]; rfl
              have HV : Hid (lexSignS b = 8) := Lib.hid (by unfold lexSignS; (repeat' split) <;> omega)
              go_enter Try.func19, Try.ntmps19
              go_wp2
              go_ret
              exact ⟨txt_int HV.out.symm, rfl⟩
            · have e36i : ((b : Int) == 43) = false := beq_eq_false_iff_ne.2 (by omega)
              have e36n : (b == 43) = false := beq_eq_false_iff_ne.2 (by omega)
              have e36j : ((b : Int) != 43) = true := by rw [bne, e36i]; rfl
              have e36m : (b != 43) = true := by rw [bne, e36n]; rfl
              by_cases q37 : b = 63
              · have e38i : ((b : Int) == 63) = true := by rw [beq_iff_eq]; omega
                have e38n : (b == 63) = true := by rw [beq_iff_eq]; omega
                have e38j : ((b : Int) != 63) = false := by rw [bne, e38i]; rfl
                have e38m : (b != 63) = false := by rw [bne, e38n]; rfl
                have HV : Hid (lexSignS b = 9) := Lib.hid (by unfold lexSignS; (repeat' split) <;> omega)
                go_enter Try.func19, Try.ntmps19
                go_wp2
                go_ret
                exact ⟨txt_int HV.out.symm, rfl⟩
              · have e38i : ((b : Int) == 63) = false := beq_eq_false_iff_ne.2 (by omega)
                have e38n : (b == 63) = false := beq_eq_false_iff_ne.2 (by omega)
                have e38j : ((b : Int) != 63) = true := by rw [bne, e38i]; rfl
                have e38m : (b != 63) = true := by rw [bne, e38n]; rfl
                by_cases q39 : b = 94
                · have e40i : ((b : Int) == 94) = true := by rw [beq_iff_eq]; omega
                  have e40n : (b == 94) = true := by rw [beq_iff_eq]; omega
                  have e40j : ((b : Int) != 94) = false := by rw [bne, e40i]; rfl
                  have e40m : (b != 94) = false := by rw [bne, e40n]; rfl
                  have HV : Hid (lexSignS b = 16) := Lib.hid (by unfold lexSignS; (repeat' split) <;> omega)
                  go_enter Try.func19, Try.ntmps19
                  go_wp2
                  go_ret
                  exact ⟨txt_int HV.out.symm, rfl⟩
                · have e40i : ((b : Int) == 94) = false := beq_eq_false_iff_ne.2 (by omega)
                  have e40n : (b == 94) = false := beq_eq_false_iff_ne.2 (by omega)
                  have e40j : ((b : Int) != 94) = true := by rw [bne, e40i]; rfl
                  have e40m : (b != 94) = true := by rw [bne, e40n]; rfl
                  by_cases q41 : b = 36
                  · have e42i : ((b : Int) == 36) = true := by rw [beq_iff_eq]; omega
                    have e42n : (b == 36) = true := by rw [beq_iff_eq]; omega
                    have e42j : ((b : Int) != 36) = false := by rw [bne, e42i]; rfl
                    have e42m : (b != 36) = false := by rw [bne, e42n]; rfl
                    have HV : Hid (lexSignS b = 17) := Lib.hid (by unfold lexSignS; (repeat' split) <;> omega)
                    go_enter Try.func19, Try.ntmps19
                    go_wp2
                    go_ret
                    exact ⟨txt_int HV.out.symm, rfl⟩
                  · have e42i : ((b : Int) == 36) = false := beq_eq_false_iff_ne.2 (by omega)
                    have e42n : (b == 36) = false := beq_eq_false_iff_ne.2 (by omega)
                    have e42j : ((b : Int) != 36) = true := by rw [bne, e42i]; rfl
                    have e42m : (b != 36) = true := by rw [bne, e42n]; rfl
                    have HV : Hid (lexSignS b = 0) := Lib.hid (by unfold lexSignS; (repeat' split) <;> omega)
                    go_enter Try.func19, Try.ntmps19
                    go_wp2
                    go_ret
                    exact ⟨txt_int HV.out.symm, rfl⟩

theorem lexSignV (b : Nat) (hb : b < 256) (v : Int) (hv : lexSignS b = v) (w : World) : Calls Try.prog 19 #[.int .u8 b] w fun e w' => e = .returned (.int .i64 v) ∧ w = w' := by rw [← hv]; exact lexSign b hb w
set_option maxRecDepth 100000 in
set_option maxHeartbeats 4000000 in
theorem lexHex (b : Nat) (hb : b < 256) (w : World) :
    Calls Try.prog 41 #[.int .u8 b] w fun e w' => e = .returned (.int .i64 (valueS b)) ∧ w = w' := by
  by_cases q43 : (48 : Int) ≤ b ∧ (b : Int) ≤ 57
  · have d44 := txt_t q43
    have HV : Hid (valueS b = (b : Int) - 48) := Lib.hid (by unfold valueS; (repeat' split) <;> omega)
    have HD : Hid (digS b = true) := Lib.hid (decide_eq_true (by omega))
    have w1 : IntKind.u8.wrap ((b : Int) - 48) = (b : Int) - 48 := by rw [IntKind.wrap_u8']; omega
    have w2 : IntKind.i64.wrap ((b : Int) - 48) = (b : Int) - 48 := by rw [IntKind.wrap_i64]; omega
    go_enter Try.func41, Try.ntmps41
    go_wp2_with fail
    refine (lexDigitV b hb true HD.out _).mono ?_
    rintro e w3 ⟨rfl, rfl⟩
    go_wp2
    go_ret
    exact ⟨txt_int HV.out.symm, rfl⟩
  · have d44 := txt_f q43
    by_cases q45 : (65 : Int) ≤ b
    · have d46 := txt_t q45
      by_cases q47 : (b : Int) ≤ 70
      · have d48 := txt_t q47
        have HV : Hid (valueS b = (b : Int) - 65 + 10) := Lib.hid (by unfold valueS; (repeat' split) <;> omega)
        have HD : Hid (digS b = false) := Lib.hid (decide_eq_false (by omega))
        have w1 : IntKind.u8.wrap ((b : Int) - 65) = (b : Int) - 65 := by rw [IntKind.wrap_u8']; omega
        have w2 : IntKind.i64.wrap ((b : Int) - 65) = (b : Int) - 65 := by rw [IntKind.wrap_i64]; omega
        go_enter Try.func41, Try.ntmps41
        go_wp2_with fail
        refine (lexDigitV b hb false HD.out _).mono ?_
        rintro e w3 ⟨rfl, rfl⟩
        go_wp2
        go_ret
        exact ⟨txt_int HV.out.symm, rfl⟩
      · have d48 := txt_f q47
        by_cases q49 : (97 : Int) ≤ b
        · have d50 := txt_t q49
          by_cases q51 : (b : Int) ≤ 102
          · have d52 := txt_t q51
            have HV : Hid (valueS b = (b : Int) - 97 + 10) := Lib.hid (by unfold valueS; (repeat' split) <;> omega)
            have HD : Hid (digS b = false) := Lib.hid (decide_eq_false (by omega))
            have w1 : IntKind.u8.wrap ((b : Int) - 97) = (b : Int) - 97 := by rw [IntKind.wrap_u8']; omega
            have w2 : IntKind.i64.wrap ((b : Int) - 97) = (b : Int) - 97 := by rw [IntKind.wrap_i64]; omega
            go_enter Try.func41, Try.ntmps41
            go_wp2_with fail
            refine (lexDigitV b hb false HD.out _).mono ?_
            rintro e w3 ⟨rfl, rfl⟩
            go_wp2
            go_ret
            exact ⟨txt_int HV.out.symm, rfl⟩
          · have d52 := txt_f q51
            have HV : Hid (valueS b = -1) := Lib.hid (by unfold valueS; (repeat' split) <;> omega)
            have HD : Hid (digS b = false) := Lib.hid (decide_eq_false (by omega))
            go_enter Try.func41, Try.ntmps41
            go_wp2_with fail
            refine (lexDigitV b hb false HD.out _).mono ?_
            rintro e w3 ⟨rfl, rfl⟩
            go_wp2
            go_ret
            exact ⟨txt_int HV.out.symm, rfl⟩
        · have d50 := txt_f q49
          have HV : Hid (valueS b = -1) := Lib.hid (by unfold valueS; (repeat' split) <;> omega)
          have HD : Hid (digS b = false) := Lib.hid (decide_eq_false (by omega))
          go_enter Try.func41, Try.ntmps41
          go_wp2_with fail
          refine (lexDigitV b hb false HD.out _).mono ?_
          rintro e w3 ⟨rfl, rfl⟩
          go_wp2
          go_ret
          exact ⟨txt_int HV.out.symm, rfl⟩
    · have d46 := txt_f q45
      by_cases q53 : (97 : Int) ≤ b
      · have d54 := txt_t q53
        by_cases q55 : (b : Int) ≤ 102
        · have d56 := txt_t q55
          have HV : Hid (valueS b = (b : Int) - 97 + 10) := Lib.hid (by unfold valueS; (repeat' split) <;> omega)
          have HD : Hid (digS b = false) := Lib.hid (decide_eq_false (by omega))
          have w1 : IntKind.u8.wrap ((b : Int) - 97) = (b : Int) - 97 := by rw [IntKind.wrap_u8']; omega
          have w2 : IntKind.i64.wrap ((b : Int) - 97) = (b : Int) - 97 := by rw [IntKind.wrap_i64]; omega
          go_enter Try.func41, Try.ntmps41
          go_wp2_with fail
          refine (lexDigitV b hb false HD.out _).mono ?_
          rintro e w3 ⟨rfl, rfl⟩
          go_wp2
          go_ret
          exact ⟨txt_int HV.out.symm, rfl⟩
        · have d56 := txt_f q55
          have HV : Hid (valueS b = -1) := Lib.hid (by unfold valueS; (repeat' split) <;> omega)
          have HD : Hid (digS b = false) := Lib.hid (decide_eq_false (by omega))
          go_enter Try.func41, Try.ntmps41
          go_wp2_with fail
          refine (lexDigitV b hb false HD.out _).mono ?_
          rintro e w3 ⟨rfl, rfl⟩
          go_wp2
          go_ret
          exact ⟨txt_int HV.out.symm, rfl⟩
      · have d54 := txt_f q53
        have HV : Hid (valueS b = -1) := Lib.hid (by unfold valueS; (repeat' split) <;> omega)
        have HD : Hid (digS b = false) := Lib.hid (decide_eq_false (by omega))
        go_enter Try.func41, Try.ntmps41
        go_wp2_with fail
        refine (lexDigitV b hb false HD.out _).mono ?_
        rintro e w3 ⟨rfl, rfl⟩
        go_wp2
        go_ret
        exact ⟨txt_int HV.out.symm, rfl⟩

theorem lexHexV (b : Nat) (hb : b < 256) (v : Int) (hv : valueS b = v) (w : World) : Calls Try.prog 41 #[.int .u8 b] w fun e w' => e = .returned (.int .i64 v) ∧ w = w' := by rw [← hv]; exact lexHex b hb w
end Go.Proofs.Ytdcldhkpmihahaa
