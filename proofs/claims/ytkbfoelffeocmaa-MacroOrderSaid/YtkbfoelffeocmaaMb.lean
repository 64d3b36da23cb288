/- Joined: TextA, TextB, TextD, LexA, Put, TextE, LexB, TextC, LexTimes, Sub, Cut, Bounds, LexName, TextF, TextG, RefBraces, Clone, LexBraces. -/
import Derived.Test.YtkbfoelffeocmaaProg
import Derived.WalkKit
import Derived.WalkSpells
import Derived.WalkLawsBesides
import Derived.Lib.Hide
import Derived.Deep.QuietTactic
import Derived.BigQuiet
import Derived.Test.YtkbfoelffeocmaaMa
import Derived.Test.YtkbfoelffeocmaaRefHas
import Derived.Laws.Rows
import Derived.Lib.Strings
import Derived.Lib.Walk
import Derived.Lib.Bytealg
import Derived.Shelf.LaysM
import Derived.Shelf.Strconv.Clone
/- Bytes of texts, and what the reference's value, Alpha and in answer. -/
namespace Go.Proofs.Ytkbfoelffeocmaa
open Go.RowKit
set_option linter.unusedSimpArgs false
set_option linter.unusedVariables false

/-- Byte i of a text; 0 behind its end. -/
def bt (s : ByteArray) (i : Nat) : Nat := if h : i < s.size then (s[i]'h).toNat else 0
theorem bt_is {s : ByteArray} {i : Nat} (h : i < s.size) : (s[i]'h).toNat = bt s i := by unfold bt; rw [dif_pos h]
theorem bt_lt (s : ByteArray) (i : Nat) : bt s i < 256 := by unfold bt; split; exact UInt8.toNat_lt _; omega
def valueS (c : Int) : Int := if 48 ≤ c ∧ c ≤ 57 then c - 48 else if 97 ≤ c ∧ c ≤ 102 then c - 97 + 10 else if 65 ≤ c ∧ c ≤ 70 then c - 65 + 10 else -1
theorem valueS_bounds (c : Int) : -1 ≤ valueS c ∧ valueS c ≤ 15 := by unfold valueS; (repeat' split) <;> omega
def alphaS (c : Int) : Bool := decide ((97 ≤ c ∧ c ≤ 122) ∨ (65 ≤ c ∧ c ≤ 90))
theorem txt_int {k : IntKind} {a b : Int} (h : a = b) : Ending.returned (.int k a) = .returned (.int k b) := by rw [h]
theorem txt_bool {a b : Bool} (h : a = b) : Ending.returned (.bool a) = .returned (.bool b) := by rw [h]
theorem txt_t {p : Prop} [Decidable p] (h : p) : decide p = true := decide_eq_true h
theorem txt_f {p : Prop} [Decidable p] (h : ¬ p) : decide p = false := decide_eq_false h

/-- Is c among the first k bytes? -/
def inTo (s : ByteArray) (c : Nat) (k : Nat) : Bool := (List.range k).any (fun i => bt s i == c)
def inS (s : ByteArray) (c : Nat) : Bool := inTo s c s.size
theorem inTo_succ (s : ByteArray) (c k : Nat) : inTo s c (k + 1) = (inTo s c k || (bt s k == c)) := by unfold inTo; rw [List.range_succ, List.any_append]; simp
theorem inTo_mono (s : ByteArray) (c k : Nat) (h : inTo s c k = true) : ∀ i, inTo s c (k + i) = true
  | 0 => h
  | i + 1 => by rw [show k + (i + 1) = (k + i) + 1 by omega, inTo_succ, inTo_mono s c k h i]; rfl
theorem inS_at {s : ByteArray} {c k : Nat} (h : k < s.size) (e : bt s k = c) : inS s c = true := by
  have h1 : inTo s c (k + 1) = true := by rw [inTo_succ, e]; simp
  have := inTo_mono s c (k + 1) h1 (s.size - (k + 1))
  rwa [show k + 1 + (s.size - (k + 1)) = s.size by omega] at this

end Go.Proofs.Ytkbfoelffeocmaa

/- What the reference's Named and signs answer. -/
namespace Go.Proofs.Ytkbfoelffeocmaa
open Go.RowKit
set_option linter.unusedSimpArgs false
set_option linter.unusedVariables false

/-- May a byte stand in a name? -/
def inName (c : Int) : Bool := alphaS c || (decide (c = 95) || (decide (48 ≤ c) && decide (c ≤ 57)))
def nameTo (s : ByteArray) (k : Nat) : Bool := (List.range k).all (fun i => inName (bt s i))
def namedS (s : ByteArray) : Bool := decide (1 ≤ s.size ∧ s.size ≤ 20) && (alphaS (bt s 0) && nameTo s s.size)
theorem nameTo_succ (s : ByteArray) (k : Nat) : nameTo s (k + 1) = (nameTo s k && inName (bt s k)) := by unfold nameTo; rw [List.range_succ, List.all_append]; simp
theorem nameTo_not (s : ByteArray) (k : Nat) (h : nameTo s k = false) : ∀ i, nameTo s (k + i) = false
  | 0 => h
  | i + 1 => by rw [show k + (i + 1) = (k + i) + 1 by omega, nameTo_succ, nameTo_not s k h i]; rfl
theorem named_not {s : ByteArray} {k : Nat} (h : k < s.size) (e : inName (bt s k) = false) : namedS s = false := by
  have h1 : nameTo s (k + 1) = false := by rw [nameTo_succ, e]; simp
  have := nameTo_not s (k + 1) h1 (s.size - (k + 1))
  rw [show k + 1 + (s.size - (k + 1)) = s.size by omega] at this
  unfold namedS; rw [this]; simp
theorem named_all {s : ByteArray} (h : 1 ≤ s.size ∧ s.size ≤ 20) (a : alphaS (bt s 0) = true) (e : nameTo s s.size = true) : namedS s = true := by unfold namedS; rw [a, e, decide_eq_true h]; rfl

/-- A sign's kind; 0: no sign. -/
def signsS (c : Int) : Int := if c = 40 then 2 else if c = 41 then 3 else if c = 124 then 4 else if c = 38 then 5 else if c = 126 then 6 else if c = 42 then 7 else if c = 43 then 8 else if c = 63 then 9 else if c = 94 then 16 else if c = 36 then 17 else 0
theorem txt_eq {a b : Int} (h : a = b) : (a == b) = true := beq_iff_eq.2 h
theorem txt_ne {a b : Int} (h : ¬ a = b) : (a == b) = false := beq_eq_false_iff_ne.2 h

end Go.Proofs.Ytkbfoelffeocmaa

/- What the reference's char answers: a byte that stands at a place, by itself or escaped. -/
namespace Go.Proofs.Ytkbfoelffeocmaa
open Go.RowKit
set_option linter.unusedSimpArgs false
set_option linter.unusedVariables false

/-- Behind a backslash: the byte and how many bytes it takes. -/
def escS (s : ByteArray) (at_ : Nat) (d : Nat) : Int × Int :=
  if d = 110 then (10, 2) else if d = 116 then (9, 2) else if d = 114 then (13, 2) else if d = 115 then (32, 2)
  else if d = 120 then (if at_ + 3 < s.size ∧ 0 ≤ valueS (bt s (at_ + 2)) ∧ 0 ≤ valueS (bt s (at_ + 3)) then (16 * valueS (bt s (at_ + 2)) + valueS (bt s (at_ + 3)), 4) else (0, 0))
  else if alphaS d = true ∨ (48 ≤ d ∧ d ≤ 57) then (0, 0) else ((d : Int), 2)
/-- A byte that stands at a place, and how many bytes that takes. -/
def charS (s : ByteArray) (at_ : Nat) (own : ByteArray) : Int × Int :=
  if s.size ≤ at_ then (0, 0)
  else if bt s at_ ≠ 92 then (if inS own (bt s at_) = true then (0, 0) else ((bt s at_ : Int), 1))
  else if s.size ≤ at_ + 1 then (0, 0)
  else escS s at_ (bt s (at_ + 1))
theorem char_past {s own : ByteArray} {p : Nat} (h : s.size ≤ p) : charS s p own = (0, 0) := by unfold charS; rw [if_pos h]
theorem char_own {s own : ByteArray} {p b : Nat} (h : p < s.size) (hb : bt s p = b) (n : ¬ b = 92) (e : inS own b = true) : charS s p own = (0, 0) := by unfold charS; rw [if_neg (by omega), hb, if_pos n, if_pos e]
theorem char_self {s own : ByteArray} {p b : Nat} (h : p < s.size) (hb : bt s p = b) (n : ¬ b = 92) (e : inS own b = false) : charS s p own = ((b : Int), 1) := by unfold charS; rw [if_neg (by omega), hb, if_pos n, if_neg (by rw [e]; exact Bool.false_ne_true)]
theorem char_half {s own : ByteArray} {p : Nat} (h : p < s.size) (hb : bt s p = 92) (n : s.size ≤ p + 1) : charS s p own = (0, 0) := by unfold charS; rw [if_neg (by omega), if_neg (by rw [hb]; exact fun x => x rfl), if_pos n]
theorem char_esc {s own : ByteArray} {p d : Nat} (hb : bt s p = 92) (n : p + 1 < s.size) (hd : bt s (p + 1) = d) : charS s p own = escS s p d := by unfold charS; rw [if_neg (by omega), if_neg (by rw [hb]; exact fun x => x rfl), if_neg (by omega), hd]
theorem esc_bounds (s : ByteArray) (p d : Nat) (hd : d < 256) : 0 ≤ (escS s p d).1 ∧ (escS s p d).1 ≤ 255 ∧ 0 ≤ (escS s p d).2 ∧ (escS s p d).2 ≤ 4 := by
  have v1 := valueS_bounds (bt s (p + 2))
  have v2 := valueS_bounds (bt s (p + 3))
  unfold escS; (repeat' split) <;> (refine ⟨?_, ?_, ?_, ?_⟩ <;> (dsimp only; omega))
theorem char_bounds (s : ByteArray) (p : Nat) (own : ByteArray) : 0 ≤ (charS s p own).1 ∧ (charS s p own).1 ≤ 255 ∧ 0 ≤ (charS s p own).2 ∧ (charS s p own).2 ≤ 4 := by
  have b1 := bt_lt s p
  have b2 := esc_bounds s p (bt s (p + 1)) (bt_lt s (p + 1))
  unfold charS; (repeat' split) <;> (first | exact b2 | (refine ⟨?_, ?_, ?_, ?_⟩ <;> (dsimp only; omega)))
theorem txt_two {k l : IntKind} {a b : Int} {x : Int × Int} (h : x = (a, b)) : Ending.returned (.tuple #[.int k a, .int l b]) = .returned (.tuple #[.int k x.1, .int l x.2]) := by rw [h]
end Go.Proofs.Ytkbfoelffeocmaa

/- What the program's isLetter, isDigit, isBlank, sign and hexDigit answer. -/
namespace Go.Proofs.Ytkbfoelffeocmaa
open Go.RowKit
set_option linter.unusedSimpArgs false
set_option linter.unusedVariables false

set_option maxRecDepth 100000 in
set_option maxHeartbeats 4000000 in
theorem lexLetter (b : Nat) (hb : b < 256) (w : World) :
    Calls Try.prog 44 #[.int .u8 b] w fun e w' => e = .returned (.bool (alphaS b)) ∧ w = w' := by
  by_cases q1 : (65 : Int) ≤ b
  · have d2 := txt_t q1
    by_cases q3 : (b : Int) ≤ 90
    · have d4 := txt_t q3
      have HV : Hid (alphaS b = true) := Lib.hid (decide_eq_true (by omega))
      go_enter Try.func44, Try.ntmps44
      go_wp2
      go_ret
      exact ⟨txt_bool HV.out.symm, rfl⟩
    · have d4 := txt_f q3
      by_cases q5 : (97 : Int) ≤ b
      · have d6 := txt_t q5
        by_cases q7 : (b : Int) ≤ 122
        · have d8 := txt_t q7
          have HV : Hid (alphaS b = true) := Lib.hid (decide_eq_true (by omega))
          go_enter Try.func44, Try.ntmps44
          go_wp2
          go_ret
          exact ⟨txt_bool HV.out.symm, rfl⟩
        · have d8 := txt_f q7
          have HV : Hid (alphaS b = false) := Lib.hid (decide_eq_false (by omega))
          go_enter Try.func44, Try.ntmps44
          go_wp2
          go_ret
          exact ⟨txt_bool HV.out.symm, rfl⟩
      · have d6 := txt_f q5
        have HV : Hid (alphaS b = false) := Lib.hid (decide_eq_false (by omega))
        go_enter Try.func44, Try.ntmps44
        go_wp2
        go_ret
        exact ⟨txt_bool HV.out.symm, rfl⟩
  · have d2 := txt_f q1
    by_cases q9 : (97 : Int) ≤ b
    · have d10 := txt_t q9
      by_cases q11 : (b : Int) ≤ 122
      · have d12 := txt_t q11
        have HV : Hid (alphaS b = true) := Lib.hid (decide_eq_true (by omega))
        go_enter Try.func44, Try.ntmps44
        go_wp2
        go_ret
        exact ⟨txt_bool HV.out.symm, rfl⟩
      · have d12 := txt_f q11
        have HV : Hid (alphaS b = false) := Lib.hid (decide_eq_false (by omega))
        go_enter Try.func44, Try.ntmps44
        go_wp2
        go_ret
        exact ⟨txt_bool HV.out.symm, rfl⟩
    · have d10 := txt_f q9
      have HV : Hid (alphaS b = false) := Lib.hid (decide_eq_false (by omega))
      go_enter Try.func44, Try.ntmps44
      go_wp2
      go_ret
      exact ⟨txt_bool HV.out.symm, rfl⟩

theorem lexLetterV (b : Nat) (hb : b < 256) (v : Bool) (hv : alphaS b = v) (w : World) : Calls Try.prog 44 #[.int .u8 b] w fun e w' => e = .returned (.bool v) ∧ w = w' := by rw [← hv]; exact lexLetter b hb w
def digS (c : Int) : Bool := decide (48 ≤ c ∧ c ≤ 57)
set_option maxRecDepth 100000 in
set_option maxHeartbeats 4000000 in
theorem lexDigit (b : Nat) (hb : b < 256) (w : World) :
    Calls Try.prog 45 #[.int .u8 b] w fun e w' => e = .returned (.bool (digS b)) ∧ w = w' := by
  by_cases q13 : (48 : Int) ≤ b
  · have d14 := txt_t q13
    by_cases q15 : (b : Int) ≤ 57
    · have d16 := txt_t q15
      have HV : Hid (digS b = true) := Lib.hid (decide_eq_true (by omega))
      go_enter Try.func45, Try.ntmps45
      go_wp2
      go_ret
      exact ⟨txt_bool HV.out.symm, rfl⟩
    · have d16 := txt_f q15
      have HV : Hid (digS b = false) := Lib.hid (decide_eq_false (by omega))
      go_enter Try.func45, Try.ntmps45
      go_wp2
      go_ret
      exact ⟨txt_bool HV.out.symm, rfl⟩
  · have d14 := txt_f q13
    have HV : Hid (digS b = false) := Lib.hid (decide_eq_false (by omega))
    go_enter Try.func45, Try.ntmps45
    go_wp2
    go_ret
    exact ⟨txt_bool HV.out.symm, rfl⟩

theorem lexDigitV (b : Nat) (hb : b < 256) (v : Bool) (hv : digS b = v) (w : World) : Calls Try.prog 45 #[.int .u8 b] w fun e w' => e = .returned (.bool v) ∧ w = w' := by rw [← hv]; exact lexDigit b hb w
def blankS (b : Nat) : Bool := decide (b = 32 ∨ b = 10 ∨ b = 9 ∨ b = 13)
set_option maxRecDepth 100000 in
set_option maxHeartbeats 4000000 in
theorem lexBlank (b : Nat) (hb : b < 256) (w : World) :
    Calls Try.prog 21 #[.int .u8 b] w fun e w' => e = .returned (.bool (blankS b)) ∧ w = w' := by
  by_cases q17 : b = 32
  · have e18i : ((b : Int) == 32) = true := by rw [beq_iff_eq]; omega
    have e18n : (b == 32) = true := by rw [beq_iff_eq]; omega
    have e18j : ((b : Int) != 32) = false := by rw [bne, e18i]; rfl
    have e18m : (b != 32) = false := by rw [bne, e18n]; rfl
    have HV : Hid (blankS b = true) := Lib.hid (decide_eq_true (by omega))
    go_enter Try.func21, Try.ntmps21
    go_wp2
    go_ret
    exact ⟨txt_bool HV.out.symm, rfl⟩
  · have e18i : ((b : Int) == 32) = false := beq_eq_false_iff_ne.2 (by omega)
    have e18n : (b == 32) = false := beq_eq_false_iff_ne.2 (by omega)
    have e18j : ((b : Int) != 32) = true := by rw [bne, e18i]; rfl
    have e18m : (b != 32) = true := by rw [bne, e18n]; rfl
    by_cases q19 : b = 10
    · have e20i : ((b : Int) == 10) = true := by rw [beq_iff_eq]; omega
      have e20n : (b == 10) = true := by rw [beq_iff_eq]; omega
      have e20j : ((b : Int) != 10) = false := by rw [bne, e20i]; rfl
      have e20m : (b != 10) = false := by rw [bne, e20n]; rfl
      have HV : Hid (blankS b = true) := Lib.hid (decide_eq_true (by omega))
      go_enter Try.func21, Try.ntmps21
      go_wp2
      go_ret
      exact ⟨txt_bool HV.out.symm, rfl⟩
    · have e20i : ((b : Int) == 10) = false := beq_eq_false_iff_ne.2 (by omega)
      have e20n : (b == 10) = false := beq_eq_false_iff_ne.2 (by omega)
      have e20j : ((b : Int) != 10) = true := by rw [bne, e20i]; rfl
      have e20m : (b != 10) = true := by rw [bne, e20n]; rfl
      by_cases q21 : b = 9
      · have e22i : ((b : Int) == 9) = true := by rw [beq_iff_eq]; omega
        have e22n : (b == 9) = true := by rw [beq_iff_eq]; omega
        have e22j : ((b : Int) != 9) = false := by rw [bne, e22i]; rfl
        have e22m : (b != 9) = false := by rw [bne, e22n]; rfl
        have HV : Hid (blankS b = true) := Lib.hid (decide_eq_true (by omega))
        go_enter Try.func21, Try.ntmps21
        go_wp2
        go_ret
        exact ⟨txt_bool HV.out.symm, rfl⟩
      · have e22i : ((b : Int) == 9) = false := beq_eq_false_iff_ne.2 (by omega)
        have e22n : (b == 9) = false := beq_eq_false_iff_ne.2 (by omega)
        have e22j : ((b : Int) != 9) = true := by rw [bne, e22i]; rfl
        have e22m : (b != 9) = true := by rw [bne, e22n]; rfl
        by_cases q23 : b = 13
        · have e24i : ((b : Int) == 13) = true := by rw [beq_iff_eq]; omega
          have e24n : (b == 13) = true := by rw [beq_iff_eq]; omega
          have e24j : ((b : Int) != 13) = false := by rw [bne, e24i]; rfl
          have e24m : (b != 13) = false := by rw [bne, e24n]; rfl
          have HV : Hid (blankS b = true) := Lib.hid (decide_eq_true (by omega))
          go_enter Try.func21, Try.ntmps21
          go_wp2
          go_ret
          exact ⟨txt_bool HV.out.symm, rfl⟩
        · have e24i : ((b : Int) == 13) = false := beq_eq_false_iff_ne.2 (by omega)
          have e24n : (b == 13) = false := beq_eq_false_iff_ne.2 (by omega)
          have e24j : ((b : Int) != 13) = true := by rw [bne, e24i]; rfl
          have e24m : (b != 13) = true := by rw [bne, e24n]; rfl
          have HV : Hid (blankS b = false) := Lib.hid (decide_eq_false (by omega))
          go_enter Try.func21, Try.ntmps21
          go_wp2
          go_ret
          exact ⟨txt_bool HV.out.symm, rfl⟩

theorem lexBlankV (b : Nat) (hb : b < 256) (v : Bool) (hv : blankS b = v) (w : World) : Calls Try.prog 21 #[.int .u8 b] w fun e w' => e = .returned (.bool v) ∧ w = w' := by rw [← hv]; exact lexBlank b hb w
def lexSignS (c : Nat) : Int := if c = 41 then 3 else if c = 124 then 4 else if c = 38 then 5 else if c = 126 then 6 else if c = 42 then 7 else if c = 43 then 8 else if c = 63 then 9 else if c = 94 then 16 else if c = 36 then 17 else 0
set_option maxRecDepth 100000 in
set_option maxHeartbeats 4000000 in
theorem lexSign (b : Nat) (hb : b < 256) (w : World) :
    Calls Try.prog 35 #[.int .u8 b] w fun e w' => e = .returned (.int .i64 (lexSignS b)) ∧ w = w' := by
  by_cases q25 : b = 41
  · have e26i : ((b : Int) == 41) = true := by rw [beq_iff_eq]; omega
    have e26n : (b == 41) = true := by rw [beq_iff_eq]; omega
    have e26j : ((b : Int) != 41) = false := by rw [bne, e26i]; rfl
    have e26m : (b != 41) = false := by rw [bne, e26n]; rfl
    have HV : Hid (lexSignS b = 3) := Lib.hid (by unfold lexSignS; (repeat' split) <;> omega)
    go_enter Try.func35, Try.ntmps35
    go_wp2
    go_ret
    exact ⟨txt_int HV.out.symm, rfl⟩
  · have e26i : ((b : Int) == 41) = false := beq_eq_false_iff_ne.2 (by omega)
    have e26n : (b == 41) = false := beq_eq_false_iff_ne.2 (by omega)
    have e26j : ((b : Int) != 41) = true := by rw [bne, e26i]; rfl
    have e26m : (b != 41) = true := by rw [bne, e26n]; rfl
    by_cases q27 : b = 124
    · have e28i : ((b : Int) == 124) = true := by rw [beq_iff_eq]; omega
      have e28n : (b == 124) = true := by rw [beq_iff_eq]; omega
      have e28j : ((b : Int) != 124) = false := by rw [bne, e28i]; rfl
      have e28m : (b != 124) = false := by rw [bne, e28n]; rfl
      have HV : Hid (lexSignS b = 4) := Lib.hid (by unfold lexSignS; (repeat' split) <;> omega)
      go_enter Try.func35, Try.ntmps35
      go_wp2
      go_ret
      exact ⟨txt_int HV.out.symm, rfl⟩
    · have e28i : ((b : Int) == 124) = false := beq_eq_false_iff_ne.2 (by omega)
      have e28n : (b == 124) = false := beq_eq_false_iff_ne.2 (by omega)
      have e28j : ((b : Int) != 124) = true := by rw [bne, e28i]; rfl
      have e28m : (b != 124) = true := by rw [bne, e28n]; rfl
      by_cases q29 : b = 38
      · have e30i : ((b : Int) == 38) = true := by rw [beq_iff_eq]; omega
        have e30n : (b == 38) = true := by rw [beq_iff_eq]; omega
        have e30j : ((b : Int) != 38) = false := by rw [bne, e30i]; rfl
        have e30m : (b != 38) = false := by rw [bne, e30n]; rfl
        have HV : Hid (lexSignS b = 5) := Lib.hid (by unfold lexSignS; (repeat' split) <;> omega)
        go_enter Try.func35, Try.ntmps35
        go_wp2
        go_ret
        exact ⟨txt_int HV.out.symm, rfl⟩
      · have e30i : ((b : Int) == 38) = false := beq_eq_false_iff_ne.2 (by omega)
        have e30n : (b == 38) = false := beq_eq_false_iff_ne.2 (by omega)
        have e30j : ((b : Int) != 38) = true := by rw [bne, e30i]; rfl
        have e30m : (b != 38) = true := by rw [bne, e30n]; rfl
        by_cases q31 : b = 126
        · have e32i : ((b : Int) == 126) = true := by rw [beq_iff_eq]; omega
          have e32n : (b == 126) = true := by rw [beq_iff_eq]; omega
          have e32j : ((b : Int) != 126) = false := by rw [bne, e32i]; rfl
          have e32m : (b != 126) = false := by rw [bne, e32n]; rfl
          have HV : Hid (lexSignS b = 6) := Lib.hid (by unfold lexSignS; (repeat' split) <;> omega)
          go_enter Try.func35, Try.ntmps35
          go_wp2
          go_ret
          exact ⟨txt_int HV.out.symm, rfl⟩
        · have e32i : ((b : Int) == 126) = false := beq_eq_false_iff_ne.2 (by omega)
          have e32n : (b == 126) = false := beq_eq_false_iff_ne.2 (by omega)
          have e32j : ((b : Int) != 126) = true := by rw [bne, e32i]; rfl
          have e32m : (b != 126) = true := by rw [bne, e32n]; rfl
          by_cases q33 : b = 42
          · have e34i : ((b : Int) == 42) = true := by rw [beq_iff_eq]; omega
            have e34n : (b == 42) = true := by rw [beq_iff_eq]; omega
            have e34j : ((b : Int) != 42) = false := by rw [bne, e34i]; rfl
            have e34m : (b != 42) = false := by rw [bne, e34n]; rfl
            have HV : Hid (lexSignS b = 7) := Lib.hid (by unfold lexSignS; (repeat' split) <;> omega)
            go_enter Try.func35, Try.ntmps35
            go_wp2
            go_ret
            exact ⟨txt_int HV.out.symm, rfl⟩
          · have e34i : ((b : Int) == 42) = false := beq_eq_false_iff_ne.2 (by omega)
            have e34n : (b == 42) = false := beq_eq_false_iff_ne.2 (by omega)
            have e34j : ((b : Int) != 42) = true := by rw [bne, e34i]; rfl
            have e34m : (b != 42) = true := by rw [bne, e34n]; rfl
            by_cases q35 : b = 43
            · have e36i : ((b : Int) == 43) = true := by rw [beq_iff_eq]; omega
              have e36n : (b == 43) = true := by rw [beq_iff_eq]; omega
              have e36j : ((b : Int) != 43) = false := by rw [bne, e36i]; rfl
              have e36m : (b != 43) = false := by rw [bne, e36n]; rfl
              have HV : Hid (lexSignS b = 8) := Lib.hid (by unfold lexSignS; (repeat' split) <;> omega)
              go_enter Try.func35, Try.ntmps35
              go_wp2
              go_ret
              exact ⟨txt_int HV.out.symm, rfl⟩
            · have e36i : ((b : Int) == 43) = false := beq_eq_false_iff_ne.2 (by omega)
              have e36n : (b == 43) = false := beq_eq_false_iff_ne.2 (by omega)
              have e36j : ((b : Int) != 43) = true := by rw [bne, e36i]; rfl
              have e36m : (b != 43) = true := by rw [bne, e36n]; rfl
              by_cases q37 : b = 63
              · have e38i : ((b : Int) == 63) = true := by rw [beq_iff_eq]; omega
                have e38n : (b == 63) = true := by rw [beq_iff_eq]; omega
                have e38j : ((b : Int) != 63) = false := by rw [bne, e38i]; rfl
                have e38m : (b != 63) = false := by rw [bne, e38n]; rfl
                have HV : Hid (lexSignS b = 9) := Lib.hid (by unfold lexSignS; (repeat' split) <;> omega)
                go_enter Try.func35, Try.ntmps35
                go_wp2
                go_ret
                exact ⟨txt_int HV.out.symm, rfl⟩
              · have e38i : ((b : Int) == 63) = false := beq_eq_false_iff_ne.2 (by omega)
                have e38n : (b == 63) = false := beq_eq_false_iff_ne.2 (by omega)
                have e38j : ((b : Int) != 63) = true := by rw [bne, e38i]; rfl
                have e38m : (b != 63) = true := by rw [bne, e38n]; rfl
                by_cases q39 : b = 94
                · have e40i : ((b : Int) == 94) = true := by rw [beq_iff_eq]; omega
                  have e40n : (b == 94) = true := by rw [beq_iff_eq]; omega
                  have e40j : ((b : Int) != 94) = false := by rw [bne, e40i]; rfl
                  have e40m : (b != 94) = false := by rw [bne, e40n]; rfl
                  have HV : Hid (lexSignS b = 16) := Lib.hid (by unfold lexSignS; (repeat' split) <;> omega)
                  go_enter Try.func35, Try.ntmps35
                  go_wp2
                  go_ret
                  exact ⟨txt_int HV.out.symm, rfl⟩
                · have e40i : ((b : Int) == 94) = false := beq_eq_false_iff_ne.2 (by omega)
                  have e40n : (b == 94) = false := beq_eq_false_iff_ne.2 (by omega)
                  have e40j : ((b : Int) != 94) = true := by rw [bne, e40i]; rfl
                  have e40m : (b != 94) = true := by rw [bne, e40n]; rfl
                  by_cases q41 : b = 36
                  · have e42i : ((b : Int) == 36) = true := by rw [beq_iff_eq]; omega
                    have e42n : (b == 36) = true := by rw [beq_iff_eq]; omega
                    have e42j : ((b : Int) != 36) = false := by rw [bne, e42i]; rfl
                    have e42m : (b != 36) = false := by rw [bne, e42n]; rfl
                    have HV : Hid (lexSignS b = 17) := Lib.hid (by unfold lexSignS; (repeat' split) <;> omega)
                    go_enter Try.func35, Try.ntmps35
                    go_wp2
                    go_ret
                    exact ⟨txt_int HV.out.symm, rfl⟩
                  · have e42i : ((b : Int) == 36) = false := beq_eq_false_iff_ne.2 (by omega)
                    have e42n : (b == 36) = false := beq_eq_false_iff_ne.2 (by omega)
                    have e42j : ((b : Int) != 36) = true := by rw [bne, e42i]; rfl
                    have e42m : (b != 36) = true := by rw [bne, e42n]; rfl
                    have HV : Hid (lexSignS b = 0) := Lib.hid (by unfold lexSignS; (repeat' split) <;> omega)
                    go_enter Try.func35, Try.ntmps35
                    go_wp2
                    go_ret
                    exact ⟨txt_int HV.out.symm, rfl⟩

theorem lexSignV (b : Nat) (hb : b < 256) (v : Int) (hv : lexSignS b = v) (w : World) : Calls Try.prog 35 #[.int .u8 b] w fun e w' => e = .returned (.int .i64 v) ∧ w = w' := by rw [← hv]; exact lexSign b hb w
set_option maxRecDepth 100000 in
set_option maxHeartbeats 4000000 in
theorem lexHex (b : Nat) (hb : b < 256) (w : World) :
    Calls Try.prog 59 #[.int .u8 b] w fun e w' => e = .returned (.int .i64 (valueS b)) ∧ w = w' := by
  by_cases q43 : (48 : Int) ≤ b ∧ (b : Int) ≤ 57
  · have d44 := txt_t q43
    have HV : Hid (valueS b = (b : Int) - 48) := Lib.hid (by unfold valueS; (repeat' split) <;> omega)
    have HD : Hid (digS b = true) := Lib.hid (decide_eq_true (by omega))
    have w1 : IntKind.u8.wrap ((b : Int) - 48) = (b : Int) - 48 := by rw [IntKind.wrap_u8']; omega
    have w2 : IntKind.i64.wrap ((b : Int) - 48) = (b : Int) - 48 := by rw [IntKind.wrap_i64]; omega
    go_enter Try.func59, Try.ntmps59
    go_wp2_with fail
    refine (lexDigitV b hb true HD.out _).mono ?_
    rintro e w3 ⟨rfl, rfl⟩
    go_wp2
    go_ret
    exact ⟨txt_int HV.out.symm, rfl⟩
  · have d44 := txt_f q43
    by_cases q45 : (65 : Int) ≤ b
    · have d46 := txt_t q45
      by_cases q47 : (b : Int) ≤ 70
      · have d48 := txt_t q47
        have HV : Hid (valueS b = (b : Int) - 65 + 10) := Lib.hid (by unfold valueS; (repeat' split) <;> omega)
        have HD : Hid (digS b = false) := Lib.hid (decide_eq_false (by omega))
        have w1 : IntKind.u8.wrap ((b : Int) - 65) = (b : Int) - 65 := by rw [IntKind.wrap_u8']; omega
        have w2 : IntKind.i64.wrap ((b : Int) - 65) = (b : Int) - 65 := by rw [IntKind.wrap_i64]; omega
        go_enter Try.func59, Try.ntmps59
        go_wp2_with fail
        refine (lexDigitV b hb false HD.out _).mono ?_
        rintro e w3 ⟨rfl, rfl⟩
        go_wp2
        go_ret
        exact ⟨txt_int HV.out.symm, rfl⟩
      · have d48 := txt_f q47
        by_cases q49 : (97 : Int) ≤ b
        · have d50 := txt_t q49
          by_cases q51 : (b : Int) ≤ 102
          · have d52 := txt_t q51
            have HV : Hid (valueS b = (b : Int) - 97 + 10) := Lib.hid (by unfold valueS; (repeat' split) <;> omega)
            have HD : Hid (digS b = false) := Lib.hid (decide_eq_false (by omega))
            have w1 : IntKind.u8.wrap ((b : Int) - 97) = (b : Int) - 97 := by rw [IntKind.wrap_u8']; omega
            have w2 : IntKind.i64.wrap ((b : Int) - 97) = (b : Int) - 97 := by rw [IntKind.wrap_i64]; omega
            go_enter Try.func59, Try.ntmps59
            go_wp2_with fail
            refine (lexDigitV b hb false HD.out _).mono ?_
            rintro e w3 ⟨rfl, rfl⟩
            go_wp2
            go_ret
            exact ⟨txt_int HV.out.symm, rfl⟩
          · have d52 := txt_f q51
            have HV : Hid (valueS b = -1) := Lib.hid (by unfold valueS; (repeat' split) <;> omega)
            have HD : Hid (digS b = false) := Lib.hid (decide_eq_false (by omega))
            go_enter Try.func59, Try.ntmps59
            go_wp2_with fail
            refine (lexDigitV b hb false HD.out _).mono ?_
            rintro e w3 ⟨rfl, rfl⟩
            go_wp2
            go_ret
            exact ⟨txt_int HV.out.symm, rfl⟩
        · have d50 := txt_f q49
          have HV : Hid (valueS b = -1) := Lib.hid (by unfold valueS; (repeat' split) <;> omega)
          have HD : Hid (digS b = false) := Lib.hid (decide_eq_false (by omega))
          go_enter Try.func59, Try.ntmps59
          go_wp2_with fail
          refine (lexDigitV b hb false HD.out _).mono ?_
          rintro e w3 ⟨rfl, rfl⟩
          go_wp2
          go_ret
          exact ⟨txt_int HV.out.symm, rfl⟩
    · have d46 := txt_f q45
      by_cases q53 : (97 : Int) ≤ b
      · have d54 := txt_t q53
        by_cases q55 : (b : Int) ≤ 102
        · have d56 := txt_t q55
          have HV : Hid (valueS b = (b : Int) - 97 + 10) := Lib.hid (by unfold valueS; (repeat' split) <;> omega)
          have HD : Hid (digS b = false) := Lib.hid (decide_eq_false (by omega))
          have w1 : IntKind.u8.wrap ((b : Int) - 97) = (b : Int) - 97 := by rw [IntKind.wrap_u8']; omega
          have w2 : IntKind.i64.wrap ((b : Int) - 97) = (b : Int) - 97 := by rw [IntKind.wrap_i64]; omega
          go_enter Try.func59, Try.ntmps59
          go_wp2_with fail
          refine (lexDigitV b hb false HD.out _).mono ?_
          rintro e w3 ⟨rfl, rfl⟩
          go_wp2
          go_ret
          exact ⟨txt_int HV.out.symm, rfl⟩
        · have d56 := txt_f q55
          have HV : Hid (valueS b = -1) := Lib.hid (by unfold valueS; (repeat' split) <;> omega)
          have HD : Hid (digS b = false) := Lib.hid (decide_eq_false (by omega))
          go_enter Try.func59, Try.ntmps59
          go_wp2_with fail
          refine (lexDigitV b hb false HD.out _).mono ?_
          rintro e w3 ⟨rfl, rfl⟩
          go_wp2
          go_ret
          exact ⟨txt_int HV.out.symm, rfl⟩
      · have d54 := txt_f q53
        have HV : Hid (valueS b = -1) := Lib.hid (by unfold valueS; (repeat' split) <;> omega)
        have HD : Hid (digS b = false) := Lib.hid (decide_eq_false (by omega))
        go_enter Try.func59, Try.ntmps59
        go_wp2_with fail
        refine (lexDigitV b hb false HD.out _).mono ?_
        rintro e w3 ⟨rfl, rfl⟩
        go_wp2
        go_ret
        exact ⟨txt_int HV.out.symm, rfl⟩

theorem lexHexV (b : Nat) (hb : b < 256) (v : Int) (hv : valueS b = v) (w : World) : Calls Try.prog 59 #[.int .u8 b] w fun e w' => e = .returned (.int .i64 v) ∧ w = w' := by rw [← hv]; exact lexHex b hb w
end Go.Proofs.Ytkbfoelffeocmaa

/- What the reference's Put answers: the set and one byte more. -/
namespace Go.Proofs.Ytkbfoelffeocmaa
open Go.RowKit

theorem word_bit0 (s : St) (b r : Nat) (h : b = 64 * 0 + r) (hr : r < 64) (hb : s.has b = false) : s.w0.testBit r = false := by rw [s.has_of b 0 r h hr] at hb; exact hb
theorem word_bit1 (s : St) (b r : Nat) (h : b = 64 * 1 + r) (hr : r < 64) (hb : s.has b = false) : s.w1.testBit r = false := by rw [s.has_of b 1 r h hr] at hb; exact hb
theorem word_bit2 (s : St) (b r : Nat) (h : b = 64 * 2 + r) (hr : r < 64) (hb : s.has b = false) : s.w2.testBit r = false := by rw [s.has_of b 2 r h hr] at hb; exact hb
theorem word_bit3 (s : St) (b r : Nat) (h : b = 64 * 3 + r) (hr : r < 64) (hb : s.has b = false) : s.w3.testBit r = false := by rw [s.has_of b 3 r h hr] at hb; exact hb

end Go.Proofs.Ytkbfoelffeocmaa

/- A class as it is read: what the reference's class answers (its walk is still to do). -/
namespace Go.Proofs.Ytkbfoelffeocmaa
open Go.RowKit
set_option linter.unusedSimpArgs false
set_option linter.unusedVariables false

/-- Two results, the first a row that stands in a variable. -/
theorem results_row_tmp {P : Program} {fn : Func} {p u : Tmp} {ty : TypeId} (h : fn.results = #[.cell p ty, .tmp u]) (tmps : Array Value) (w : World) (g : Nat) (t : TypeId) (cs : Array Value) (fr : Nat × Nat) (d : TypeDesc)
    (hp : tmps.getD p undef = .pointer (some ⟨g, 0, none⟩)) (hg : w.heap[g]? = some (.cells cs t fr))
    (hu : P.underlying ty = some d) (hd : (match d with | .struct _ | .array _ _ => true | _ => false) = true) (hi : (P.info? ty).map (·.size) = some cs.size) :
    (results fn tmps).run P w = .ok (.tuple #[.agg cs, tmps.getD u undef]) w := by
  have hp' : tmps[p]?.getD undef = .pointer (some ⟨g, 0, none⟩) := by simpa using hp
  simp [results, h, hp', asAddr, run_loadVar_row w g t ty cs fr d hg hu hd hi]

/-- What doesn't stand by itself in a class. -/
def ownC : ByteArray := { data := #[93, 45, 91, 94] }
/-- n bytes from lo on are put into c. -/
def puts (c : St) (lo : Nat) : Nat → St
  | 0 => c
  | n + 1 => (puts c lo n).put (lo + n)
theorem puts_ok {c : St} (h : c.Ok) (lo : Nat) : ∀ n, (puts c lo n).Ok
  | 0 => h
  | n + 1 => St.put_ok (puts_ok h lo n) _
/-- The rest of a class from place i on, c read so far: what it holds and the place of its ]; some place behind the end where there is none; none: it isn't formed. -/
def classFrom (s : ByteArray) : Nat → Nat → St → Option (St × Nat)
  | 0, _, _ => none
  | f + 1, i, c =>
    if s.size ≤ i ∨ bt s i = 93 then some (c, i)
    else if (charS s i ownC).2 = 0 then none
    else if i + (charS s i ownC).2.toNat < s.size ∧ bt s (i + (charS s i ownC).2.toNat) = 45 then
      (if (charS s (i + (charS s i ownC).2.toNat + 1) ownC).2 = 0 ∨ (charS s (i + (charS s i ownC).2.toNat + 1) ownC).1 < (charS s i ownC).1 then none
       else classFrom s f (i + (charS s i ownC).2.toNat + 1 + (charS s (i + (charS s i ownC).2.toNat + 1) ownC).2.toNat) (puts c (charS s i ownC).1.toNat ((charS s (i + (charS s i ownC).2.toNat + 1) ownC).1.toNat + 1 - (charS s i ownC).1.toNat)))
    else classFrom s f (i + (charS s i ownC).2.toNat) (puts c (charS s i ownC).1.toNat 1)
theorem classFrom_end {s : ByteArray} {f i : Nat} {c : St} (h : s.size ≤ i ∨ bt s i = 93) : classFrom s (f + 1) i c = some (c, i) := by rw [classFrom, if_pos h]
theorem classFrom_bad {s : ByteArray} {f i : Nat} {c : St} {a : Int} (h : ¬ (s.size ≤ i ∨ bt s i = 93)) (ha : charS s i ownC = (a, 0)) : classFrom s (f + 1) i c = none := by rw [classFrom, if_neg h, ha, if_pos rfl]
theorem classFrom_one {s : ByteArray} {f i a n : Nat} {c : St} (h : ¬ (s.size ≤ i ∨ bt s i = 93)) (ha : charS s i ownC = ((a : Int), (n : Int))) (hn : 0 < n) (hd : ¬ (i + n < s.size ∧ bt s (i + n) = 45)) :
    classFrom s (f + 1) i c = classFrom s f (i + n) (puts c a 1) := by
  rw [classFrom, if_neg h, ha]; dsimp only; rw [if_neg (by omega), Int.toNat_natCast, Int.toNat_natCast, if_neg hd]
theorem classFrom_bad2 {s : ByteArray} {f i a n : Nat} {c : St} {b m : Int} (h : ¬ (s.size ≤ i ∨ bt s i = 93)) (ha : charS s i ownC = ((a : Int), (n : Int))) (hn : 0 < n) (hd : i + n < s.size ∧ bt s (i + n) = 45) (hb : charS s (i + n + 1) ownC = (b, m)) (e : m = 0 ∨ b < a) :
    classFrom s (f + 1) i c = none := by
  rw [classFrom, if_neg h, ha]; dsimp only; rw [if_neg (by omega), Int.toNat_natCast, Int.toNat_natCast, if_pos hd, hb, if_pos e]
theorem classFrom_two {s : ByteArray} {f i a n b m : Nat} {c : St} (h : ¬ (s.size ≤ i ∨ bt s i = 93)) (ha : charS s i ownC = ((a : Int), (n : Int))) (hn : 0 < n) (hd : i + n < s.size ∧ bt s (i + n) = 45) (hb : charS s (i + n + 1) ownC = ((b : Int), (m : Int))) (hm : 0 < m) (hab : a ≤ b) :
    classFrom s (f + 1) i c = classFrom s f (i + n + 1 + m) (puts c a (b + 1 - a)) := by
  rw [classFrom, if_neg h, ha]; dsimp only; rw [if_neg (by omega), Int.toNat_natCast, Int.toNat_natCast, if_pos hd, hb]; dsimp only; rw [if_neg (by omega), Int.toNat_natCast, Int.toNat_natCast]
def emptyC : St := ⟨0, 0, 0, 0⟩
/-- A class that begins at place p: its set and how many bytes it takes; 0: none does. -/
def classS (s : ByteArray) (p : Nat) : St × Int :=
  match classFrom s (s.size + 1) (if p + 1 < s.size ∧ bt s (p + 1) = 94 then p + 2 else p + 1) emptyC with
  | none => (emptyC, 0)
  | some (c, j) => if s.size ≤ j then (emptyC, 0) else (if p + 1 < s.size ∧ bt s (p + 1) = 94 then c.not else c, (j : Int) + 1 - p)
/-- A char that is there, as Nats. -/
theorem char_nat (s : ByteArray) (i : Nat) (own : ByteArray) : ∃ a n : Nat, charS s i own = ((a : Int), (n : Int)) ∧ a < 256 ∧ n ≤ 4 := by
  have := char_bounds s i own
  refine ⟨(charS s i own).1.toNat, (charS s i own).2.toNat, ?_, by omega, by omega⟩
  rw [Int.toNat_of_nonneg (by omega), Int.toNat_of_nonneg (by omega)]
/-- A char that is there lies in the text. -/
theorem char_in {s own : ByteArray} {i a n : Nat} (h : charS s i own = ((a : Int), (n : Int))) (hn : 0 < n) : i + n ≤ s.size := by
  unfold charS escS at h
  (repeat' split at h) <;> (first | (have := congrArg Prod.snd h; dsimp only at this; omega))
end Go.Proofs.Ytkbfoelffeocmaa

/- What the program's hexEscape, escape and single answer. -/
namespace Go.Proofs.Ytkbfoelffeocmaa
open Go.RowKit
set_option linter.unusedSimpArgs false
set_option linter.unusedVariables false

theorem esc_hex (t : ByteArray) (p : Nat) : escS t p 120 = (if p + 3 < t.size ∧ 0 ≤ valueS (bt t (p + 2)) ∧ 0 ≤ valueS (bt t (p + 3)) then (16 * valueS (bt t (p + 2)) + valueS (bt t (p + 3)), 4) else (0, 0)) := by unfold escS; rfl
theorem hex_or : ∀ u : Fin 16, ∀ v : Fin 16, bits .or .i64 (((u.val : Int)) * 16) (v.val : Int) = 16 * (u.val : Int) + (v.val : Int) := by decide

set_option maxRecDepth 100000 in
set_option maxHeartbeats 4000000 in
theorem lexHexEsc (t : ByteArray) (hs : t.size ≤ 20000) (w : World) :
    Calls Try.prog 43 #[.string t] w fun e w' => e = .returned (.tuple #[.int .u8 (escS t 0 120).1, .int .i64 (escS t 0 120).2]) ∧ ∃ n, w' = w.drewN n := by
  by_cases q1 : (t.size : Int) < 4
  · have d2 := txt_t q1
    have HV : Hid (escS t 0 120 = (0, 0)) := Lib.hid (by rw [esc_hex, if_neg (by omega)])
    go_enter Try.func43, Try.ntmps43
    go_wp2
    go_ret2
    exact ⟨txt_two HV.out, 0, rfl⟩
  · have d2 := txt_f q1
    have hlt2 : 2 < t.size := by omega
    obtain ⟨x, hx⟩ : ∃ x, (t[2]'hlt2).toNat = x := ⟨_, rfl⟩
    have hxl : x < 256 := by rw [← hx]; exact UInt8.toNat_lt _
    have HX : Hid (bt t 2 = x) := Lib.hid (by rw [← bt_is hlt2]; exact hx)
    have hlt3 : 3 < t.size := by omega
    obtain ⟨y, hy⟩ : ∃ y, (t[3]'hlt3).toNat = y := ⟨_, rfl⟩
    have hyl : y < 256 := by rw [← hy]; exact UInt8.toNat_lt _
    have HY : Hid (bt t 3 = y) := Lib.hid (by rw [← bt_is hlt3]; exact hy)
    obtain ⟨u, hu⟩ : ∃ u, valueS x = u := ⟨_, rfl⟩
    obtain ⟨v, hv⟩ : ∃ v, valueS y = v := ⟨_, rfl⟩
    have hub := valueS_bounds x
    have hvb := valueS_bounds y
    rw [hu] at hub
    rw [hv] at hvb
    have HU := Lib.hid hu
    have HW := Lib.hid hv
    clear hu hv
    by_cases q3 : u < 0
    · have d4 := txt_t q3
      have HV : Hid (escS t 0 120 = (0, 0)) := Lib.hid (by rw [esc_hex, show bt t (0 + 2) = x from HX.out, show bt t (0 + 3) = y from HY.out, HU.out, HW.out, if_neg (by omega)])
      go_enter Try.func43, Try.ntmps43
      go_wp2_with fail
      go_quiet (first | (with_reducible exact (lexHexV x hxl _ HU.out _).mono fun _ _ h => ⟨h.1, _, h.2.symm⟩) | (with_reducible exact (lexHexV y hyl _ HW.out _).mono fun _ _ h => ⟨h.1, _, h.2.symm⟩))
      go_wp2
      go_ret2
      exact ⟨txt_two HV.out, _, rfl⟩
    · have d4 := txt_f q3
      by_cases q5 : v < 0
      · have d6 := txt_t q5
        have HV : Hid (escS t 0 120 = (0, 0)) := Lib.hid (by rw [esc_hex, show bt t (0 + 2) = x from HX.out, show bt t (0 + 3) = y from HY.out, HU.out, HW.out, if_neg (by omega)])
        go_enter Try.func43, Try.ntmps43
        go_wp2_with fail
        go_quiet (first | (with_reducible exact (lexHexV x hxl _ HU.out _).mono fun _ _ h => ⟨h.1, _, h.2.symm⟩) | (with_reducible exact (lexHexV y hyl _ HW.out _).mono fun _ _ h => ⟨h.1, _, h.2.symm⟩))
        go_wp2
        go_ret2
        exact ⟨txt_two HV.out, _, rfl⟩
      · have d6 := txt_f q5
        have HV : Hid (escS t 0 120 = (16 * u + v, 4)) := Lib.hid (by rw [esc_hex, show bt t (0 + 2) = x from HX.out, show bt t (0 + 3) = y from HY.out, HU.out, HW.out, if_pos ⟨by omega, by omega, by omega⟩])
        obtain ⟨u', rfl⟩ : ∃ u' : Nat, u = (u' : Int) := ⟨u.toNat, by omega⟩
        obtain ⟨v', rfl⟩ : ∃ v' : Nat, v = (v' : Int) := ⟨v.toNat, by omega⟩
        have ho : bits .or .i64 ((u' : Int) * 16) (v' : Int) = 16 * (u' : Int) + (v' : Int) := hex_or ⟨u', by omega⟩ ⟨v', by omega⟩
        have w8 : IntKind.u8.wrap (16 * (u' : Int) + (v' : Int)) = 16 * (u' : Int) + (v' : Int) := by rw [IntKind.wrap_u8']; omega
        have w6 : IntKind.i64.wrap ((u' : Int) * 16) = (u' : Int) * 16 := by rw [IntKind.wrap_i64]; omega
        go_enter Try.func43, Try.ntmps43
        go_wp2_with fail
        go_quiet (first | (with_reducible exact (lexHexV x hxl _ HU.out _).mono fun _ _ h => ⟨h.1, _, h.2.symm⟩) | (with_reducible exact (lexHexV y hyl _ HW.out _).mono fun _ _ h => ⟨h.1, _, h.2.symm⟩))
        go_wp2
        go_ret2
        exact ⟨txt_two HV.out, _, rfl⟩

def escT (t : ByteArray) : Int × Int := if t.size ≤ 1 then (0, 0) else escS t 0 (bt t 1)
theorem escT_of {t : ByteArray} {d : Nat} (h : 1 < t.size) (e : bt t 1 = d) : escT t = escS t 0 d := by unfold escT; rw [if_neg (by omega), e]

set_option maxRecDepth 100000 in
set_option maxHeartbeats 4000000 in
theorem lexEscape (t : ByteArray) (hs : t.size ≤ 20000) (w : World) :
    Calls Try.prog 28 #[.string t] w fun e w' => e = .returned (.tuple #[.int .u8 (escT t).1, .int .i64 (escT t).2]) ∧ ∃ n, w' = w.drewN n := by
  by_cases q7 : (t.size : Int) < 2
  · have d8 := txt_t q7
    have HV : Hid (escT t = (0, 0)) := Lib.hid (by unfold escT; rw [if_pos (by omega)])
    go_enter Try.func28, Try.ntmps28
    go_wp2
    go_ret2
    exact ⟨txt_two HV.out, 0, rfl⟩
  · have d8 := txt_f q7
    have hlt1 : 1 < t.size := by omega
    obtain ⟨d, hd⟩ : ∃ d, (t[1]'hlt1).toNat = d := ⟨_, rfl⟩
    have hdl : d < 256 := by rw [← hd]; exact UInt8.toNat_lt _
    have HD : Hid (bt t 1 = d) := Lib.hid (by rw [← bt_is hlt1]; exact hd)
    by_cases q9 : d = 110
    · have e10i : ((d : Int) == 110) = true := by rw [beq_iff_eq]; omega
      have e10n : (d == 110) = true := by rw [beq_iff_eq]; omega
      have e10j : ((d : Int) != 110) = false := by rw [bne, e10i]; rfl
      have e10m : (d != 110) = false := by rw [bne, e10n]; rfl
      have HV : Hid (escT t = (10, 2)) := Lib.hid (by rw [escT_of hlt1 HD.out]; unfold escS; rw [if_pos (by omega)])
      go_enter Try.func28, Try.ntmps28
      go_wp2
      go_ret2
      exact ⟨txt_two HV.out, 0, rfl⟩
    · have e10i : ((d : Int) == 110) = false := beq_eq_false_iff_ne.2 (by omega)
      have e10n : (d == 110) = false := beq_eq_false_iff_ne.2 (by omega)
      have e10j : ((d : Int) != 110) = true := by rw [bne, e10i]; rfl
      have e10m : (d != 110) = true := by rw [bne, e10n]; rfl
      by_cases q11 : d = 116
      · have e12i : ((d : Int) == 116) = true := by rw [beq_iff_eq]; omega
        have e12n : (d == 116) = true := by rw [beq_iff_eq]; omega
        have e12j : ((d : Int) != 116) = false := by rw [bne, e12i]; rfl
        have e12m : (d != 116) = false := by rw [bne, e12n]; rfl
        have HV : Hid (escT t = (9, 2)) := Lib.hid (by rw [escT_of hlt1 HD.out]; unfold escS; rw [if_neg (by omega)]; rw [if_pos (by omega)])
        go_enter Try.func28, Try.ntmps28
        go_wp2
        go_ret2
        exact ⟨txt_two HV.out, 0, rfl⟩
      · have e12i : ((d : Int) == 116) = false := beq_eq_false_iff_ne.2 (by omega)
        have e12n : (d == 116) = false := beq_eq_false_iff_ne.2 (by omega)
        have e12j : ((d : Int) != 116) = true := by rw [bne, e12i]; rfl
        have e12m : (d != 116) = true := by rw [bne, e12n]; rfl
        by_cases q13 : d = 114
        · have e14i : ((d : Int) == 114) = true := by rw [beq_iff_eq]; omega
          have e14n : (d == 114) = true := by rw [beq_iff_eq]; omega
          have e14j : ((d : Int) != 114) = false := by rw [bne, e14i]; rfl
          have e14m : (d != 114) = false := by rw [bne, e14n]; rfl
          have HV : Hid (escT t = (13, 2)) := Lib.hid (by rw [escT_of hlt1 HD.out]; unfold escS; rw [if_neg (by omega)]; rw [if_neg (by omega)]; rw [if_pos (by omega)])
          go_enter Try.func28, Try.ntmps28
          go_wp2
          go_ret2
          exact ⟨txt_two HV.out, 0, rfl⟩
        · have e14i : ((d : Int) == 114) = false := beq_eq_false_iff_ne.2 (by omega)
          have e14n : (d == 114) = false := beq_eq_false_iff_ne.2 (by omega)
          have e14j : ((d : Int) != 114) = true := by rw [bne, e14i]; rfl
          have e14m : (d != 114) = true := by rw [bne, e14n]; rfl
          by_cases q15 : d = 115
          · have e16i : ((d : Int) == 115) = true := by rw [beq_iff_eq]; omega
            have e16n : (d == 115) = true := by rw [beq_iff_eq]; omega
            have e16j : ((d : Int) != 115) = false := by rw [bne, e16i]; rfl
            have e16m : (d != 115) = false := by rw [bne, e16n]; rfl
            have HV : Hid (escT t = (32, 2)) := Lib.hid (by rw [escT_of hlt1 HD.out]; unfold escS; rw [if_neg (by omega)]; rw [if_neg (by omega)]; rw [if_neg (by omega)]; rw [if_pos (by omega)])
            go_enter Try.func28, Try.ntmps28
            go_wp2
            go_ret2
            exact ⟨txt_two HV.out, 0, rfl⟩
          · have e16i : ((d : Int) == 115) = false := beq_eq_false_iff_ne.2 (by omega)
            have e16n : (d == 115) = false := beq_eq_false_iff_ne.2 (by omega)
            have e16j : ((d : Int) != 115) = true := by rw [bne, e16i]; rfl
            have e16m : (d != 115) = true := by rw [bne, e16n]; rfl
            by_cases hd120 : d = 120
            · have e17i : ((d : Int) == 120) = true := by rw [beq_iff_eq]; omega
              have e17n : (d == 120) = true := by rw [beq_iff_eq]; omega
              have e17j : ((d : Int) != 120) = false := by rw [bne, e17i]; rfl
              have e17m : (d != 120) = false := by rw [bne, e17n]; rfl
              have HV : Hid (escT t = escS t 0 120) := Lib.hid (by rw [escT_of hlt1 HD.out, hd120])
              go_enter Try.func28, Try.ntmps28
              go_wp2_with fail
              refine (lexHexEsc t hs _).mono ?_
              rintro e w3 ⟨rfl, n, rfl⟩
              go_wp2
              go_ret2
              exact ⟨txt_two HV.out, n, rfl⟩
            · have e17i : ((d : Int) == 120) = false := beq_eq_false_iff_ne.2 (by omega)
              have e17n : (d == 120) = false := beq_eq_false_iff_ne.2 (by omega)
              have e17j : ((d : Int) != 120) = true := by rw [bne, e17i]; rfl
              have e17m : (d != 120) = true := by rw [bne, e17n]; rfl
              obtain ⟨v, hv⟩ : ∃ v, alphaS d = v := ⟨_, rfl⟩
              have HA := Lib.hid hv
              clear hv
              rcases v with _ | _
              · by_cases hg : 48 ≤ d ∧ d ≤ 57
                · have HG : Hid (digS d = true) := Lib.hid (decide_eq_true (by omega))
                  have HV : Hid (escT t = (0, 0)) := Lib.hid (by rw [escT_of hlt1 HD.out]; unfold escS; rw [if_neg (by omega)]; rw [if_neg (by omega)]; rw [if_neg (by omega)]; rw [if_neg (by omega)]; rw [if_neg (by omega)]; rw [if_pos (Or.inr (by omega))])
                  go_enter Try.func28, Try.ntmps28
                  go_wp2_with fail
                  refine (lexLetterV d hdl false HA.out _).mono ?_
                  rintro e w3 ⟨rfl, rfl⟩
                  go_wp2_with fail
                  refine (lexDigitV d hdl true HG.out _).mono ?_
                  rintro e w3 ⟨rfl, rfl⟩
                  go_wp2
                  go_ret2
                  exact ⟨txt_two HV.out, 0, rfl⟩
                · have HG : Hid (digS d = false) := Lib.hid (decide_eq_false (by omega))
                  have HV : Hid (escT t = ((d : Int), 2)) := Lib.hid (by rw [escT_of hlt1 HD.out]; unfold escS; rw [if_neg (by omega)]; rw [if_neg (by omega)]; rw [if_neg (by omega)]; rw [if_neg (by omega)]; rw [if_neg (by omega)]; rw [if_neg (fun z : alphaS d = true ∨ (48 ≤ d ∧ d ≤ 57) => z.elim (fun t => by rw [HA.out] at t; cases t) (fun t => by omega))])
                  go_enter Try.func28, Try.ntmps28
                  go_wp2_with fail
                  refine (lexLetterV d hdl false HA.out _).mono ?_
                  rintro e w3 ⟨rfl, rfl⟩
                  go_wp2_with fail
                  refine (lexDigitV d hdl false HG.out _).mono ?_
                  rintro e w3 ⟨rfl, rfl⟩
                  go_wp2
                  go_ret2
                  exact ⟨txt_two HV.out, 0, rfl⟩
              · have HV : Hid (escT t = (0, 0)) := Lib.hid (by rw [escT_of hlt1 HD.out]; unfold escS; rw [if_neg (by omega)]; rw [if_neg (by omega)]; rw [if_neg (by omega)]; rw [if_neg (by omega)]; rw [if_neg (by omega)]; rw [if_pos (Or.inl HA.out)])
                go_enter Try.func28, Try.ntmps28
                go_wp2_with fail
                refine (lexLetterV d hdl true HA.out _).mono ?_
                rintro e w3 ⟨rfl, rfl⟩
                go_wp2
                go_ret2
                exact ⟨txt_two HV.out, 0, rfl⟩

theorem char_at_esc {t own : ByteArray} (h : 0 < t.size) (e : bt t 0 = 92) : charS t 0 own = escT t := by
  unfold charS escT; rw [if_neg (by omega), if_neg (by rw [e]; exact fun x => x rfl)]
def ownN : Nat → Bool := fun b => decide (b = 93 ∨ b = 45 ∨ b = 91 ∨ b = 94)
theorem inS_ownC (b : Nat) : inS ownC b = ownN b := by
  have h : inS ownC b = ((93 == b) || ((45 == b) || ((91 == b) || ((94 == b) || false)))) := rfl
  rw [h]
  unfold ownN
  by_cases h1 : b = 93
  · subst h1; rfl
  by_cases h2 : b = 45
  · subst h2; rfl
  by_cases h3 : b = 91
  · subst h3; rfl
  by_cases h4 : b = 94
  · subst h4; rfl
  rw [beq_eq_false_iff_ne.2 (Ne.symm h1), beq_eq_false_iff_ne.2 (Ne.symm h2), beq_eq_false_iff_ne.2 (Ne.symm h3), beq_eq_false_iff_ne.2 (Ne.symm h4), decide_eq_false (by omega)]
  rfl
theorem text_some {t : ByteArray} (h : 0 < t.size) : t.toList.isEmpty = false := by
  rw [Lib.toList_data, List.isEmpty_eq_false_iff]
  intro e
  rw [Lib.size_eq, e] at h
  exact absurd h (by decide)

set_option maxRecDepth 100000 in
set_option maxHeartbeats 4000000 in
theorem lexSingle (t : ByteArray) (hs : t.size ≤ 20000) (w : World) :
    Calls Try.prog 61 #[.string t] w fun e w' => e = .returned (.tuple #[.int .u8 (charS t 0 ownC).1, .int .i64 (charS t 0 ownC).2]) ∧ ∃ n, w' = w.drewN n := by
  by_cases h0 : t.size = 0
  · have he : t = ⟨#[]⟩ := by
      cases t with
      | mk a => cases a with
        | mk l => cases l with
          | nil => rfl
          | cons x r => simp [ByteArray.size] at h0
    subst he
    have HV : Hid (charS ⟨#[]⟩ 0 ownC = (0, 0)) := Lib.hid (char_past (Nat.le_refl _))
    go_enter Try.func61, Try.ntmps61
    go_wp2
    go_ret2
    exact ⟨txt_two HV.out, 0, rfl⟩
  · have hlt0 : 0 < t.size := by omega
    obtain ⟨b, hb⟩ : ∃ b, (t[0]'hlt0).toNat = b := ⟨_, rfl⟩
    have hbl : b < 256 := by rw [← hb]; exact UInt8.toNat_lt _
    have HB : Hid (bt t 0 = b) := Lib.hid (by rw [← bt_is hlt0]; exact hb)
    have ne0 := text_some hlt0
    by_cases hb92 : b = 92
    · have e18i : ((b : Int) == 92) = true := by rw [beq_iff_eq]; omega
      have e18n : (b == 92) = true := by rw [beq_iff_eq]; omega
      have e18j : ((b : Int) != 92) = false := by rw [bne, e18i]; rfl
      have e18m : (b != 92) = false := by rw [bne, e18n]; rfl
      have HV : Hid (charS t 0 ownC = escT t) := Lib.hid (char_at_esc hlt0 (by rw [HB.out]; exact hb92))
      go_enter Try.func61, Try.ntmps61
      go_wp2_with fail
      refine (lexEscape t hs _).mono ?_
      rintro e w3 ⟨rfl, n, rfl⟩
      go_wp2
      go_ret2
      exact ⟨txt_two HV.out, n, rfl⟩
    · have e18i : ((b : Int) == 92) = false := beq_eq_false_iff_ne.2 (by omega)
      have e18n : (b == 92) = false := beq_eq_false_iff_ne.2 (by omega)
      have e18j : ((b : Int) != 92) = true := by rw [bne, e18i]; rfl
      have e18m : (b != 92) = true := by rw [bne, e18n]; rfl
      by_cases q19 : b = 93
      · have e20i : ((b : Int) == 93) = true := by rw [beq_iff_eq]; omega
        have e20n : (b == 93) = true := by rw [beq_iff_eq]; omega
        have e20j : ((b : Int) != 93) = false := by rw [bne, e20i]; rfl
        have e20m : (b != 93) = false := by rw [bne, e20n]; rfl
        have HV : Hid (charS t 0 ownC = (0, 0)) := Lib.hid (char_own hlt0 HB.out (by omega) (by rw [inS_ownC]; exact decide_eq_true (by omega)))
        go_enter Try.func61, Try.ntmps61
        go_wp2
        go_ret2
        exact ⟨txt_two HV.out, 0, rfl⟩
      · have e20i : ((b : Int) == 93) = false := beq_eq_false_iff_ne.2 (by omega)
        have e20n : (b == 93) = false := beq_eq_false_iff_ne.2 (by omega)
        have e20j : ((b : Int) != 93) = true := by rw [bne, e20i]; rfl
        have e20m : (b != 93) = true := by rw [bne, e20n]; rfl
        by_cases q21 : b = 45
        · have e22i : ((b : Int) == 45) = true := by rw [beq_iff_eq]; omega
          have e22n : (b == 45) = true := by rw [beq_iff_eq]; omega
          have e22j : ((b : Int) != 45) = false := by rw [bne, e22i]; rfl
          have e22m : (b != 45) = false := by rw [bne, e22n]; rfl
          have HV : Hid (charS t 0 ownC = (0, 0)) := Lib.hid (char_own hlt0 HB.out (by omega) (by rw [inS_ownC]; exact decide_eq_true (by omega)))
          go_enter Try.func61, Try.ntmps61
          go_wp2
          go_ret2
          exact ⟨txt_two HV.out, 0, rfl⟩
        · have e22i : ((b : Int) == 45) = false := beq_eq_false_iff_ne.2 (by omega)
          have e22n : (b == 45) = false := beq_eq_false_iff_ne.2 (by omega)
          have e22j : ((b : Int) != 45) = true := by rw [bne, e22i]; rfl
          have e22m : (b != 45) = true := by rw [bne, e22n]; rfl
          by_cases q23 : b = 91
          · have e24i : ((b : Int) == 91) = true := by rw [beq_iff_eq]; omega
            have e24n : (b == 91) = true := by rw [beq_iff_eq]; omega
            have e24j : ((b : Int) != 91) = false := by rw [bne, e24i]; rfl
            have e24m : (b != 91) = false := by rw [bne, e24n]; rfl
            have HV : Hid (charS t 0 ownC = (0, 0)) := Lib.hid (char_own hlt0 HB.out (by omega) (by rw [inS_ownC]; exact decide_eq_true (by omega)))
            go_enter Try.func61, Try.ntmps61
            go_wp2
            go_ret2
            exact ⟨txt_two HV.out, 0, rfl⟩
          · have e24i : ((b : Int) == 91) = false := beq_eq_false_iff_ne.2 (by omega)
            have e24n : (b == 91) = false := beq_eq_false_iff_ne.2 (by omega)
            have e24j : ((b : Int) != 91) = true := by rw [bne, e24i]; rfl
            have e24m : (b != 91) = true := by rw [bne, e24n]; rfl
            by_cases q25 : b = 94
            · have e26i : ((b : Int) == 94) = true := by rw [beq_iff_eq]; omega
              have e26n : (b == 94) = true := by rw [beq_iff_eq]; omega
              have e26j : ((b : Int) != 94) = false := by rw [bne, e26i]; rfl
              have e26m : (b != 94) = false := by rw [bne, e26n]; rfl
              have HV : Hid (charS t 0 ownC = (0, 0)) := Lib.hid (char_own hlt0 HB.out (by omega) (by rw [inS_ownC]; exact decide_eq_true (by omega)))
              go_enter Try.func61, Try.ntmps61
              go_wp2
              go_ret2
              exact ⟨txt_two HV.out, 0, rfl⟩
            · have e26i : ((b : Int) == 94) = false := beq_eq_false_iff_ne.2 (by omega)
              have e26n : (b == 94) = false := beq_eq_false_iff_ne.2 (by omega)
              have e26j : ((b : Int) != 94) = true := by rw [bne, e26i]; rfl
              have e26m : (b != 94) = true := by rw [bne, e26n]; rfl
              have HV : Hid (charS t 0 ownC = ((b : Int), 1)) := Lib.hid (char_self hlt0 HB.out (by omega) (by rw [inS_ownC]; exact decide_eq_false (by omega)))
              go_enter Try.func61, Try.ntmps61
              go_wp2
              go_ret2
              exact ⟨txt_two HV.out, 0, rfl⟩

end Go.Proofs.Ytkbfoelffeocmaa

/- What the reference's count answers. -/
namespace Go.Proofs.Ytkbfoelffeocmaa
open Go.RowKit
set_option linter.unusedSimpArgs false
set_option linter.unusedVariables false

/-- A digit? -/
def dig (c : Int) : Prop := 48 ≤ c ∧ c ≤ 57
instance (c : Int) : Decidable (dig c) := by unfold dig; infer_instance
/-- A number of one or two digits up to 20; -1: none. -/
def countS (s : ByteArray) : Int :=
  if s.size = 1 then (if dig (bt s 0) then (bt s 0 : Int) - 48 else -1)
  else if s.size = 2 then (if dig (bt s 0) ∧ dig (bt s 1) ∧ (bt s 0 : Int) ≠ 48 ∧ 10 * ((bt s 0 : Int) - 48) + ((bt s 1 : Int) - 48) ≤ 20 then 10 * ((bt s 0 : Int) - 48) + ((bt s 1 : Int) - 48) else -1)
  else -1
def numTo (s : ByteArray) : Nat → Int
  | 0 => 0
  | k + 1 => 10 * numTo s k + (bt s k : Int) - 48
theorem count_bad {s : ByteArray} {k : Nat} (h : k < s.size) (e : ¬ dig (bt s k)) : countS s = -1 := by
  unfold countS
  split
  · rw [if_neg]; rw [show k = 0 by omega] at e; exact e
  · split
    · rw [if_neg]
      rintro ⟨a, b, _⟩
      rcases (show k = 0 ∨ k = 1 by omega) with rfl | rfl
      · exact e a
      · exact e b
    · rfl
theorem count_end {s : ByteArray} (h : s.size = 1 ∨ (s.size = 2 ∧ ¬ (bt s 0 : Int) = 48)) (e : ∀ j, j < s.size → dig (bt s j)) : countS s = if numTo s s.size > 20 then -1 else numTo s s.size := by
  have d0 := e 0 (by omega)
  unfold countS
  rcases h with h | ⟨h, n⟩
  · rw [if_pos h, if_pos d0, h]
    have : numTo s 1 = (bt s 0 : Int) - 48 := by simp only [numTo]; omega
    rw [this, if_neg]; unfold dig at d0; omega
  · have d1 := e 1 (by omega)
    rw [if_neg (by omega), if_pos h, h]
    have : numTo s 2 = 10 * ((bt s 0 : Int) - 48) + ((bt s 1 : Int) - 48) := by simp only [numTo]; omega
    rw [this]
    by_cases q : 10 * ((bt s 0 : Int) - 48) + ((bt s 1 : Int) - 48) ≤ 20
    · rw [if_pos ⟨d0, d1, n, q⟩, if_neg (by omega)]
    · rw [if_neg (fun x => q x.2.2.2), if_pos (by omega)]
theorem count_bounds (s : ByteArray) : -1 ≤ countS s ∧ countS s ≤ 20 := by
  unfold countS dig; (repeat' split) <;> omega

end Go.Proofs.Ytkbfoelffeocmaa

/- What the program's times answers: the number that a text writes. -/
namespace Go.Proofs.Ytkbfoelffeocmaa
open Go.RowKit
set_option linter.unusedSimpArgs false
set_option linter.unusedVariables false

theorem num_nonneg (s : ByteArray) : ∀ k, (∀ j, j < k → dig (bt s j)) → 0 ≤ numTo s k
  | 0, _ => Int.le_refl _
  | k + 1, h => by
    have i := num_nonneg s k (fun j hj => h j (by omega))
    have d := h k (by omega)
    unfold dig at d
    simp only [numTo]
    omega
theorem num_big (s : ByteArray) (h0 : ¬ (bt s 0 : Int) = 48) : ∀ k, (∀ j, j < k + 3 → dig (bt s j)) → 100 ≤ numTo s (k + 3)
  | 0, h => by
    have d0 := h 0 (by omega)
    have d1 := h 1 (by omega)
    have d2 := h 2 (by omega)
    unfold dig at d0 d1 d2
    simp only [numTo]
    omega
  | k + 1, h => by
    have i := num_big s h0 k (fun j hj => h j (by omega))
    have d := h (k + 3) (by omega)
    unfold dig at d
    rw [show k + 1 + 3 = (k + 3) + 1 by omega]
    simp only [numTo] at i ⊢
    omega
theorem count_long {s : ByteArray} (h : 3 ≤ s.size) : countS s = -1 := by unfold countS; rw [if_neg (by omega), if_neg (by omega)]
theorem count_over {s : ByteArray} {k : Nat} (hk : k < s.size) (h : s.size = 1 ∨ ¬ (bt s 0 : Int) = 48) (e : ∀ j, j < k + 1 → dig (bt s j)) (o : 20 < numTo s (k + 1)) : countS s = -1 := by
  by_cases h3 : 3 ≤ s.size
  · exact count_long h3
  · have d0 := e 0 (by omega)
    unfold dig at d0
    by_cases hk0 : k = 0
    · subst hk0; simp only [numTo] at o; omega
    · have h2 : s.size = 2 := by omega
      have hk1 : k = 1 := by omega
      subst hk1
      rw [count_end (Or.inr ⟨h2, by omega⟩) (by rw [h2]; exact e), h2, if_pos o]
theorem count_full {s : ByteArray} (h1 : 1 ≤ s.size) (h : s.size = 1 ∨ ¬ (bt s 0 : Int) = 48) (e : ∀ j, j < s.size → dig (bt s j)) (o : numTo s s.size ≤ 20) : countS s = numTo s s.size := by
  by_cases h3 : 3 ≤ s.size
  · exfalso
    have := num_big s (by omega) (s.size - 3) (by rw [show s.size - 3 + 3 = s.size by omega]; exact e)
    rw [show s.size - 3 + 3 = s.size by omega] at this
    omega
  · rw [count_end (by omega) e, if_neg (by omega)]
def timesN (s : ByteArray) : Int := if countS s < 0 then 0 else countS s
def timesB (s : ByteArray) : Bool := decide (0 ≤ countS s)
theorem times_no {s : ByteArray} (h : countS s = -1) : timesN s = 0 ∧ timesB s = false := by unfold timesN timesB; rw [h]; exact ⟨rfl, rfl⟩
theorem times_yes {s : ByteArray} {x : Int} (h : countS s = x) (hx : 0 ≤ x) : timesN s = x ∧ timesB s = true := by unfold timesN timesB; rw [h, if_neg (by omega), decide_eq_true hx]; exact ⟨rfl, rfl⟩
theorem txt_times {s : ByteArray} {x : Int} {v : Bool} (h : timesN s = x ∧ timesB s = v) : Ending.returned (.tuple #[.int .i64 x, .bool v]) = .returned (.tuple #[.int .i64 (timesN s), .bool (timesB s)]) := by rw [h.1, h.2]

set_option maxRecDepth 100000 in
set_option maxHeartbeats 4000000 in
theorem lexTimes (s : ByteArray) (hs : s.size ≤ 20000) (w : World) : Calls Try.prog 65 #[.string s] w fun e w' => e = .returned (.tuple #[.int .i64 (timesN s), .bool (timesB s)]) ∧ w = w' := by
  by_cases h0 : s.size = 0
  · have he : s = ⟨#[]⟩ := by
      cases s with
      | mk a => cases a with
        | mk l => cases l with
          | nil => rfl
          | cons x r => simp [ByteArray.size] at h0
    subst he
    have HV : Hid (timesN ⟨#[]⟩ = 0 ∧ timesB ⟨#[]⟩ = false) := Lib.hid ⟨rfl, rfl⟩
    go_enter Try.func65, Try.ntmps65
    go_wp2
    go_ret2
    exact ⟨txt_times HV.out, rfl⟩
  have h1 : 1 ≤ s.size := by omega
  have hlt0 : 0 < s.size := h1
  have ne0 := text_some hlt0
  obtain ⟨b0, hb0⟩ : ∃ b, (s[0]'hlt0).toNat = b := ⟨_, rfl⟩
  have HB0 : Hid (bt s 0 = b0) := Lib.hid (by rw [← bt_is hlt0]; exact hb0)
  by_cases hl1 : (1 : Int) < (s.size : Int)
  · have d1 := txt_t hl1
    have d1n := txt_t (show 1 < s.size by omega)
    by_cases hz : b0 = 48
    · have f1 : ((b0 : Int) == 48) = true := by rw [beq_iff_eq]; omega
      have f2 : (b0 == 48) = true := by rw [beq_iff_eq]; omega
      have HV := Lib.hid (times_no (s := s) (by
        by_cases h3 : 3 ≤ s.size
        · exact count_long h3
        · unfold countS; rw [if_neg (by omega), if_pos (by omega), HB0.out, if_neg]; rintro ⟨_, _, x, _⟩; exact x (by omega)))
      go_enter Try.func65, Try.ntmps65
      go_wp2
      go_ret2
      exact ⟨txt_times HV.out, rfl⟩
    have f1 : ((b0 : Int) == 48) = false := beq_eq_false_iff_ne.2 (by omega)
    have f2 : (b0 == 48) = false := beq_eq_false_iff_ne.2 hz
    have HH : Hid (s.size = 1 ∨ ¬ (bt s 0 : Int) = 48) := Lib.hid (Or.inr (by rw [HB0.out]; omega))
    go_enter Try.func65, Try.ntmps65
    go_wp2
    go_loop [4, 20] (fun n i => ∃ (k : Nat) (x : Int), k ≤ s.size ∧ i = .int .i64 k ∧ n = .int .i64 x ∧ 0 ≤ x ∧ x ≤ 20 ∧ Hid (x = numTo s k) ∧ Hid (∀ j, j < k → dig (bt s j))) (fun _ i => s.size - (intOf i).toNat)
    case atStart => exact ⟨0, 0, Nat.zero_le _, rfl, rfl, by omega, by omega, Lib.hid rfl, Lib.hid (by omega)⟩
    case round =>
      obtain ⟨k, x, hk, rfl, rfl, hx0, hx1, HX, HD⟩ := hrel
      by_cases hlt : k < s.size
      · obtain ⟨b, hb⟩ : ∃ b, (s[k]'hlt).toNat = b := ⟨_, rfl⟩
        have hl : b < 256 := by rw [← hb]; exact UInt8.toNat_lt _
        have HBt : Hid (bt s k = b) := Lib.hid (by rw [← bt_is hlt]; exact hb)
        by_cases hg : 48 ≤ b ∧ b ≤ 57
        · have HG : Hid (digS b = true) := Lib.hid (decide_eq_true (by omega))
          have w1 : IntKind.u8.wrap ((b : Int) - 48) = (b : Int) - 48 := by rw [IntKind.wrap_u8']; omega
          have w2 : IntKind.i64.wrap ((b : Int) - 48) = (b : Int) - 48 := by rw [IntKind.wrap_i64]; omega
          have HX2 : Hid (10 * x + ((b : Int) - 48) = numTo s (k + 1)) := Lib.hid (by simp only [numTo]; rw [← HX.out, HBt.out]; omega)
          have HD2 : Hid (∀ j, j < k + 1 → dig (bt s j)) := Lib.hid (fun j hj => by rcases (show j < k ∨ j = k by omega) with q | rfl; exact HD.out j q; rw [HBt.out]; unfold dig; omega)
          by_cases a1 : (20 : Int) < 10 * x + ((b : Int) - 48)
          · have g1 := txt_t a1
            have HV := Lib.hid (times_no (count_over hlt HH.out HD2.out (by rw [← HX2.out]; exact a1)))
            go_wp2_with fail
            refine (lexDigitV b hl true HG.out _).mono ?_
            rintro e w3 ⟨rfl, rfl⟩
            go_wp2
            go_ret2
            exact ⟨txt_times HV.out, rfl⟩
          · have g1 := txt_f a1
            go_wp2_with fail
            refine (lexDigitV b hl true HG.out _).mono ?_
            rintro e w3 ⟨rfl, rfl⟩
            go_wp2
            go_round
            case rel => exact ⟨k + 1, 10 * x + ((b : Int) - 48), by omega, by go_num, by go_num, by omega, by omega, HX2, HD2⟩
            case measure => simp [intOf]; omega
        · have HG : Hid (digS b = false) := Lib.hid (decide_eq_false (by omega))
          have HV := Lib.hid (times_no (count_bad hlt (by rw [HBt.out]; unfold dig; omega)))
          go_wp2_with fail
          refine (lexDigitV b hl false HG.out _).mono ?_
          rintro e w3 ⟨rfl, rfl⟩
          go_wp2
          go_ret2
          exact ⟨txt_times HV.out, rfl⟩
      · obtain rfl : k = s.size := by omega
        have HV := Lib.hid (times_yes (count_full h1 HH.out HD.out (by rw [← HX.out]; exact hx1)) (by rw [← HX.out]; exact hx0))
        rw [← HX.out] at HV
        go_wp2
        go_ret2
        exact ⟨txt_times HV.out, rfl⟩
  · have d1 := txt_f hl1
    have d1n := txt_f (show ¬ 1 < s.size by omega)
    have HH : Hid (s.size = 1 ∨ ¬ (bt s 0 : Int) = 48) := Lib.hid (Or.inl (by omega))
    go_enter Try.func65, Try.ntmps65
    go_wp2
    go_loop [4, 20] (fun n i => ∃ (k : Nat) (x : Int), k ≤ s.size ∧ i = .int .i64 k ∧ n = .int .i64 x ∧ 0 ≤ x ∧ x ≤ 20 ∧ Hid (x = numTo s k) ∧ Hid (∀ j, j < k → dig (bt s j))) (fun _ i => s.size - (intOf i).toNat)
    case atStart => exact ⟨0, 0, Nat.zero_le _, rfl, rfl, by omega, by omega, Lib.hid rfl, Lib.hid (by omega)⟩
    case round =>
      obtain ⟨k, x, hk, rfl, rfl, hx0, hx1, HX, HD⟩ := hrel
      by_cases hlt : k < s.size
      · obtain ⟨b, hb⟩ : ∃ b, (s[k]'hlt).toNat = b := ⟨_, rfl⟩
        have hl : b < 256 := by rw [← hb]; exact UInt8.toNat_lt _
        have HBt : Hid (bt s k = b) := Lib.hid (by rw [← bt_is hlt]; exact hb)
        by_cases hg : 48 ≤ b ∧ b ≤ 57
        · have HG : Hid (digS b = true) := Lib.hid (decide_eq_true (by omega))
          have w1 : IntKind.u8.wrap ((b : Int) - 48) = (b : Int) - 48 := by rw [IntKind.wrap_u8']; omega
          have w2 : IntKind.i64.wrap ((b : Int) - 48) = (b : Int) - 48 := by rw [IntKind.wrap_i64]; omega
          have HX2 : Hid (10 * x + ((b : Int) - 48) = numTo s (k + 1)) := Lib.hid (by simp only [numTo]; rw [← HX.out, HBt.out]; omega)
          have HD2 : Hid (∀ j, j < k + 1 → dig (bt s j)) := Lib.hid (fun j hj => by rcases (show j < k ∨ j = k by omega) with q | rfl; exact HD.out j q; rw [HBt.out]; unfold dig; omega)
          by_cases a1 : (20 : Int) < 10 * x + ((b : Int) - 48)
          · have g1 := txt_t a1
            have HV := Lib.hid (times_no (count_over hlt HH.out HD2.out (by rw [← HX2.out]; exact a1)))
            go_wp2_with fail
            refine (lexDigitV b hl true HG.out _).mono ?_
            rintro e w3 ⟨rfl, rfl⟩
            go_wp2
            go_ret2
            exact ⟨txt_times HV.out, rfl⟩
          · have g1 := txt_f a1
            go_wp2_with fail
            refine (lexDigitV b hl true HG.out _).mono ?_
            rintro e w3 ⟨rfl, rfl⟩
            go_wp2
            go_round
            case rel => exact ⟨k + 1, 10 * x + ((b : Int) - 48), by omega, by go_num, by go_num, by omega, by omega, HX2, HD2⟩
            case measure => simp [intOf]; omega
        · have HG : Hid (digS b = false) := Lib.hid (decide_eq_false (by omega))
          have HV := Lib.hid (times_no (count_bad hlt (by rw [HBt.out]; unfold dig; omega)))
          go_wp2_with fail
          refine (lexDigitV b hl false HG.out _).mono ?_
          rintro e w3 ⟨rfl, rfl⟩
          go_wp2
          go_ret2
          exact ⟨txt_times HV.out, rfl⟩
      · obtain rfl : k = s.size := by omega
        have HV := Lib.hid (times_yes (count_full h1 HH.out HD.out (by rw [← HX.out]; exact hx1)) (by rw [← HX.out]; exact hx0))
        rw [← HX.out] at HV
        go_wp2
        go_ret2
        exact ⟨txt_times HV.out, rfl⟩
theorem lexTimesV (s : ByteArray) (hs : s.size ≤ 20000) (x : Int) (v : Bool) (hx : timesN s = x) (hv : timesB s = v) (w : World) : Calls Try.prog 65 #[.string s] w fun e w' => e = .returned (.tuple #[.int .i64 x, .bool v]) ∧ w = w' := by
  rw [← hx, ← hv]; exact lexTimes s hs w
end Go.Proofs.Ytkbfoelffeocmaa

/- Pieces of texts: their bytes, and what stands at their places; whether a text begins with another. -/
namespace Go.Proofs.Ytkbfoelffeocmaa
open Go.RowKit
set_option linter.unusedSimpArgs false
set_option linter.unusedVariables false

theorem bt_get (t : ByteArray) (i : Nat) : bt t i = ((t.data.toList[i]?).map UInt8.toNat).getD 0 := by
  unfold bt
  by_cases h : i < t.size
  · rw [dif_pos h, List.getElem?_eq_getElem (by rw [← Lib.size_eq]; exact h)]
    rfl
  · rw [dif_neg h, List.getElem?_eq_none (by rw [← Lib.size_eq]; omega)]
    rfl
theorem sub_size (t : ByteArray) (a b : Nat) (h : b ≤ t.size) : (t.extract a b).size = b - a := by
  rw [ByteArray.size_extract]; omega
theorem bt_sub (t : ByteArray) (a b i : Nat) (h : b ≤ t.size) (hi : a + i < b) : bt (t.extract a b) i = bt t (a + i) := by
  rw [bt_get, bt_get, ← Lib.toList_data, Lib.extract_toList, List.getElem?_take, if_pos (by omega), List.getElem?_drop]
theorem bt_past {t : ByteArray} {i : Nat} (h : t.size ≤ i) : bt t i = 0 := by unfold bt; rw [dif_neg (by omega)]
theorem bt_drop (t : ByteArray) (k i : Nat) (h : k ≤ t.size) : bt (t.extract k t.size) i = bt t (k + i) := by
  by_cases hi : k + i < t.size
  · exact bt_sub t k t.size i (Nat.le_refl _) hi
  · rw [bt_past (by rw [sub_size _ _ _ (Nat.le_refl _)]; omega), bt_past (by omega)]
theorem drop_size (t : ByteArray) (k : Nat) : (t.extract k t.size).size = t.size - k := sub_size t k t.size (Nat.le_refl _)
theorem char_drop (t own : ByteArray) (k i : Nat) (h : k ≤ t.size) : charS (t.extract k t.size) i own = charS t (k + i) own := by
  unfold charS escS
  rw [drop_size, bt_drop t k i h, bt_drop t k (i + 1) h, bt_drop t k (i + 2) h, bt_drop t k (i + 3) h]
  have e1 : (t.size - k ≤ i) = (t.size ≤ k + i) := by rw [eq_iff_iff]; omega
  have e2 : (t.size - k ≤ i + 1) = (t.size ≤ k + i + 1) := by rw [eq_iff_iff]; omega
  have e3 : (i + 3 < t.size - k) = (k + i + 3 < t.size) := by rw [eq_iff_iff]; omega
  rw [show k + (i + 1) = k + i + 1 from rfl, show k + (i + 2) = k + i + 2 from rfl, show k + (i + 3) = k + i + 3 from rfl]
  simp only [e1, e2, e3]
/-- From place i on the text goes on with q. -/
def preS (t : ByteArray) (i : Nat) : List UInt8 → Bool
  | [] => true
  | a :: q => decide (i < t.size ∧ bt t i = a.toNat) && preS t (i + 1) q
theorem pre_is (t : ByteArray) (q : List UInt8) : ∀ i, Lib.hasPrefix (t.data.toList.drop i) q = preS t i q := by
  unfold Lib.hasPrefix
  induction q with
  | nil => intro i; simp [preS]
  | cons a q ih =>
    intro i
    unfold preS
    rw [← ih (i + 1)]
    by_cases h : i < t.data.toList.length
    · rw [List.drop_eq_getElem_cons h]
      have hb : bt t i = (t.data.toList[i]'h).toNat := by rw [bt_get, List.getElem?_eq_getElem h]; rfl
      rw [hb]
      have e : (a == t.data.toList[i]'h) = decide (i < t.size ∧ (t.data.toList[i]'h).toNat = a.toNat) := by
        rw [Lib.size_eq, Bool.eq_iff_iff, beq_iff_eq, decide_eq_true_iff]
        constructor
        · intro x; exact ⟨h, by rw [← x]⟩
        · intro x; exact (UInt8.toNat_inj.1 x.2).symm
      rw [← e]
      rfl
    · rw [List.drop_eq_nil_of_le (by omega), decide_eq_false (by rw [Lib.size_eq]; omega)]
      rfl
set_option maxHeartbeats 1000000 in
theorem textPrefix (t q : ByteArray) (w : World) :
    Calls Try.prog 47 #[.string t, .string q] w fun e w' => e = .returned (.bool (preS t 0 q.data.toList)) ∧ w = w' := by
  have hp := pre_is t q.data.toList 0
  rw [List.drop_zero, ← Lib.hasPrefix_of_take, ← Lib.size_eq, ← Lib.size_eq] at hp
  rw [← hp]
  clear hp
  go_enter Try.func47, Try.ntmps47
  go_wp2
  · rename_i h
    go_ret
    refine ⟨?_, rfl⟩
    show Ending.returned (Value.bool ((t.extract 0 q.size).toList == q.toList)) = _
    rw [Lib.extract_toList, Lib.toList_data]
    simp [h]
  · rename_i h
    go_ret
    refine ⟨?_, rfl⟩
    show Ending.returned (Value.bool false) = _
    simp [h]
theorem textPrefixV (t q : ByteArray) (v : Bool) (hv : preS t 0 q.data.toList = v) (w : World) :
    Calls Try.prog 47 #[.string t, .string q] w fun e w' => e = .returned (.bool v) ∧ w = w' := by
  rw [← hv]; exact textPrefix t q w
/-- The first place of c from i on; the text's end where there is none. -/
def findS (t : ByteArray) (c : Nat) : Nat → Nat → Nat
  | 0, i => i
  | f + 1, i => if t.size ≤ i ∨ bt t i = c then i else findS t c f (i + 1)
theorem u8_nat (c : Nat) (h : c < 256) : c.toUInt8.toNat = c := by
  show (UInt8.ofNat c).toNat = c
  rw [UInt8.toNat_ofNat']
  omega
theorem find_here {t : ByteArray} {c f i : Nat} (h : t.size ≤ i ∨ bt t i = c) : findS t c (f + 1) i = i := by rw [findS, if_pos h]
theorem find_next {t : ByteArray} {c f i : Nat} (h : ¬ (t.size ≤ i ∨ bt t i = c)) : findS t c (f + 1) i = findS t c f (i + 1) := by rw [findS, if_neg h]
theorem find_is (t : ByteArray) (c : Nat) (hc : c < 256) : ∀ f i, i ≤ t.size → t.size < i + f →
    Lib.indexByte (t.data.toList.drop i) c.toUInt8 = (if findS t c f i < t.size then ((findS t c f i : Nat) : Int) - i else -1) ∧ i ≤ findS t c f i ∧ findS t c f i ≤ t.size := by
  intro f
  induction f with
  | zero => intro i h1 h2; omega
  | succ f ih =>
    intro i h1 h2
    by_cases h : i < t.size
    · have hl : i < t.data.toList.length := by rw [← Lib.size_eq]; exact h
      rw [List.drop_eq_getElem_cons hl]
      have hb : bt t i = (t.data.toList[i]'hl).toNat := by rw [bt_get, List.getElem?_eq_getElem hl]; rfl
      unfold Lib.indexByte
      by_cases e : bt t i = c
      · have e2 : (t.data.toList[i]'hl) = c.toUInt8 := UInt8.toNat_inj.1 (by rw [← hb, e, u8_nat c hc])
        rw [find_here (Or.inr e), if_pos (by rw [e2]; simp), if_pos h]
        omega
      · have e2 : ¬ (t.data.toList[i]'hl) = c.toUInt8 := fun x => e (by rw [hb, x, u8_nat c hc])
        obtain ⟨i1, i2, i3⟩ := ih (i + 1) (by omega) (by omega)
        rw [find_next (by omega), if_neg (by simpa using e2), i1]
        refine ⟨?_, by omega, i3⟩
        by_cases hf : findS t c f (i + 1) < t.size
        · rw [if_pos hf, if_pos hf, if_neg (by rw [beq_iff_eq]; omega)]; omega
        · rw [if_neg hf, if_neg hf]; rfl
    · rw [find_here (Or.inl (by omega)), List.drop_eq_nil_of_le (by rw [← Lib.size_eq]; omega), if_neg h]
      exact ⟨rfl, Nat.le_refl _, h1⟩
set_option maxHeartbeats 1000000 in
set_option maxRecDepth 100000 in
theorem textIndex (t : ByteArray) (c : Nat) (hc : c < 256) (f : Nat) (hf : t.size < f) (w : World) :
    Calls Try.prog 63 #[.string t, .int .u8 c] w fun e w' => e = .returned (.int .i64 (if findS t c f 0 < t.size then ((findS t c f 0 : Nat) : Int) else -1)) ∧ w = w' := by
  have hi := (find_is t c hc f 0 (Nat.zero_le _) (by omega)).1
  rw [List.drop_zero] at hi
  simp only [Int.ofNat_eq_natCast, Int.natCast_zero, Int.sub_zero] at hi
  rw [show c.toUInt8 = (c : Int).toNat.toUInt8 from by rw [Int.toNat_natCast]] at hi
  obtain ⟨v, hv⟩ : ∃ v : Int, (if findS t c f 0 < t.size then ((findS t c f 0 : Nat) : Int) else -1) = v := ⟨_, rfl⟩
  rw [hv] at hi ⊢
  have HI := Lib.hid hi
  clear hi hv
  go_enter Try.func63, Try.ntmps63
  go_wp2
  rw [run_callFunc_extern Try.func71 (by kernel_rfl) (by kernel_rfl) (by kernel_rfl) (e := Extern.BytealgIndexByte.indexByte) (by kernel_rfl), Lib.run_indexByteString, HI.out]
  simp only [Result.andThen]
  rw [Oper.upon_value]
  go_wp2
  go_ret
  exact ⟨rfl, rfl⟩
theorem textIndexByte (t : ByteArray) (c : Nat) (hc : c < 256) (f : Nat) (hf : t.size < f) (v : Int) (hv : (if findS t c f 0 < t.size then ((findS t c f 0 : Nat) : Int) else -1) = v) (w : World) :
    Calls Try.prog 50 #[.string t, .int .u8 c] w fun e w' => e = .returned (.int .i64 v) ∧ w = w' := by
  have hi := fun w => textIndex t c hc f hf w
  rw [hv] at hi
  go_enter Try.func50, Try.ntmps50
  go_wp2_with fail
  refine (hi _).mono ?_
  rintro e w1 ⟨rfl, rfl⟩
  go_wp2
  go_ret
  exact ⟨rfl, rfl⟩
end Go.Proofs.Ytkbfoelffeocmaa

/- strings.Cut at a comma. -/
namespace Go.Proofs.Ytkbfoelffeocmaa
open Go.RowKit
set_option linter.unusedSimpArgs false
set_option linter.unusedVariables false

theorem textIndexV (t : ByteArray) (c : Nat) (hc : c < 256) (f : Nat) (hf : t.size < f) (v : Int) (hv : (if findS t c f 0 < t.size then ((findS t c f 0 : Nat) : Int) else -1) = v) (w : World) :
    Calls Try.prog 63 #[.string t, .int .u8 c] w fun e w' => e = .returned (.int .i64 v) ∧ w = w' := by
  rw [← hv]; exact textIndex t c hc f hf w
theorem comma_self (t : ByteArray) (h : ([44] : List UInt8) = t.toList) : (if findS t 44 (t.size + 1) 0 < t.size then ((findS t 44 (t.size + 1) 0 : Nat) : Int) else -1) = 0 := by
  rw [Lib.toList_data] at h
  have hs : t.size = 1 := by rw [Lib.size_eq, ← h]; rfl
  have hb : bt t 0 = 44 := by rw [bt_get, ← h]; rfl
  rw [find_here (Or.inr hb), if_pos (by omega)]
  rfl
set_option maxHeartbeats 1000000 in
set_option maxRecDepth 100000 in
theorem commaIndex (t : ByteArray) (hs : t.size ≤ 20000) (v : Int) (hv : (if findS t 44 (t.size + 1) 0 < t.size then ((findS t 44 (t.size + 1) 0 : Nat) : Int) else -1) = v) (w : World) :
    Calls Try.prog 78 #[.string t, .string { data := #[44] }] w fun e w' => e = .returned (.int .i64 v) ∧ w = w' := by
  have HV := Lib.hid hv
  clear hv
  go_enter Try.func78, Try.ntmps78
  go_wp2_with fail
  · rename_i h
    go_ret
    refine ⟨txt_int ?_, rfl⟩
    rw [← HV.out, comma_self t (by simpa using h)]
  · refine (textIndexV t 44 (by omega) (t.size + 1) (by omega) v HV.out _).mono ?_
    rintro e w1 ⟨rfl, rfl⟩
    go_wp2
    go_ret
    exact ⟨rfl, rfl⟩
/-- What stands ahead of the first comma, what stands behind it, and whether there is one. -/
def cutV (t : ByteArray) (c : Nat) : Value := if c < t.size then .tuple #[.string (t.extract 0 c), .string (t.extract (c + 1) t.size), .bool true] else .tuple #[.string t, .string { data := #[] }, .bool false]
set_option maxHeartbeats 1000000 in
set_option maxRecDepth 100000 in
theorem commaCutIn (t : ByteArray) (hs : t.size ≤ 20000) (c : Nat) (hc : findS t 44 (t.size + 1) 0 = c) (w : World) :
    Calls Try.prog 72 #[.string t, .string { data := #[44] }] w fun e w' => e = .returned (cutV t c) ∧ ∃ n, w' = w.drewN n := by
  have HC := Lib.hid hc
  clear hc
  by_cases h : c < t.size
  · have HV : Hid (cutV t c = .tuple #[.string (t.extract 0 c), .string (t.extract (c + 1) t.size), .bool true]) := Lib.hid (by unfold cutV; rw [if_pos h])
    have HI : Hid ((if findS t 44 (t.size + 1) 0 < t.size then ((findS t 44 (t.size + 1) 0 : Nat) : Int) else -1) = (c : Int)) := Lib.hid (by rw [HC.out, if_pos h])
    have hl : c ≤ t.size := by omega
    have hl1 : c + 1 ≤ t.size := by omega
    go_enter Try.func72, Try.ntmps72
    go_wp2_with fail
    refine (commaIndex t hs c HI.out _).mono ?_
    rintro e w1 ⟨rfl, rfl⟩
    go_wp2_with fail
    go_quiet (fail)
    go_wp2
    go_ret3
    exact ⟨by rw [HV.out]; rfl, _, rfl⟩
  · have HV : Hid (cutV t c = .tuple #[.string t, .string { data := #[] }, .bool false]) := Lib.hid (by unfold cutV; rw [if_neg h])
    have HI : Hid ((if findS t 44 (t.size + 1) 0 < t.size then ((findS t 44 (t.size + 1) 0 : Nat) : Int) else -1) = -1) := Lib.hid (by rw [HC.out, if_neg h])
    go_enter Try.func72, Try.ntmps72
    go_wp2_with fail
    refine (commaIndex t hs (-1) HI.out _).mono ?_
    rintro e w1 ⟨rfl, rfl⟩
    go_wp2
    go_ret3
    exact ⟨by rw [HV.out]; rfl, 0, rfl⟩
theorem commaCut (t : ByteArray) (hs : t.size ≤ 20000) (c : Nat) (hc : findS t 44 (t.size + 1) 0 = c) (w : World) :
    Calls Try.prog 64 #[.string t, .string { data := #[44] }] w fun e w' => e = .returned (cutV t c) ∧ ∃ n, w' = w.drewN n := by
  by_cases h : c < t.size
  · have HV : Hid (cutV t c = .tuple #[.string (t.extract 0 c), .string (t.extract (c + 1) t.size), .bool true]) := Lib.hid (by unfold cutV; rw [if_pos h])
    have hin := fun w => commaCutIn t hs c hc w
    rw [HV.out] at hin ⊢
    go_enter Try.func64, Try.ntmps64
    go_wp2_with fail
    refine (hin _).mono ?_
    rintro e w1 ⟨rfl, n, rfl⟩
    go_wp2
    go_ret3
    exact ⟨rfl, n, rfl⟩
  · have HV : Hid (cutV t c = .tuple #[.string t, .string { data := #[] }, .bool false]) := Lib.hid (by unfold cutV; rw [if_neg h])
    have hin := fun w => commaCutIn t hs c hc w
    rw [HV.out] at hin ⊢
    go_enter Try.func64, Try.ntmps64
    go_wp2_with fail
    refine (hin _).mono ?_
    rintro e w1 ⟨rfl, n, rfl⟩
    go_wp2
    go_ret3
    exact ⟨rfl, n, rfl⟩
end Go.Proofs.Ytkbfoelffeocmaa

/- What stands in the braces of a repeat: the program's bounds. -/
namespace Go.Proofs.Ytkbfoelffeocmaa
open Go.RowKit
set_option linter.unusedSimpArgs false
set_option linter.unusedVariables false

/-- The least and the greatest number of times; none: it isn't formed. c: the place of the comma. -/
def boundsAt (u : ByteArray) (c : Nat) : Option (Int × Int) :=
  if c < u.size then
    (if c + 1 < u.size then (if countS (u.extract 0 c) < 0 ∨ countS (u.extract (c + 1) u.size) < 1 ∨ countS (u.extract (c + 1) u.size) < countS (u.extract 0 c) then none else some (countS (u.extract 0 c), countS (u.extract (c + 1) u.size)))
     else (if countS (u.extract 0 c) < 0 then none else some (countS (u.extract 0 c), -1)))
  else (if countS u < 1 then none else some (countS u, countS u))
def boundsS (u : ByteArray) : Option (Int × Int) := boundsAt u (findS u 44 (u.size + 1) 0)
def boundsV : Option (Int × Int) → Value
  | none => .tuple #[.int .i64 0, .int .i64 0, .bool false]
  | some (a, b) => .tuple #[.int .i64 a, .int .i64 b, .bool true]
theorem txt_bounds {u : ByteArray} {x : Option (Int × Int)} {v : Value} (h : boundsS u = x) (e : v = boundsV x) : Ending.returned v = .returned (boundsV (boundsS u)) := by rw [h, e]
theorem count_cases (s : ByteArray) : countS s = -1 ∨ (0 ≤ countS s ∧ countS s ≤ 20) := by
  unfold countS dig; (repeat' split) <;> omega
theorem empty_text {u : ByteArray} (h : u.size = 0) : u.toList.isEmpty = true := by
  rw [Lib.toList_data, List.isEmpty_iff_length_eq_zero, ← Lib.size_eq]; exact h

set_option maxRecDepth 100000 in
set_option maxHeartbeats 4000000 in
theorem lexBounds (u : ByteArray) (hs : u.size ≤ 20000) (w : World) : Calls Try.prog 52 #[.string u] w fun e w' => e = .returned (boundsV (boundsS u)) ∧ ∃ n, w' = w.drewN n := by
  obtain ⟨c, hc⟩ : ∃ c, findS u 44 (u.size + 1) 0 = c := ⟨_, rfl⟩
  have HC := Lib.hid hc
  have HS : Hid (boundsS u = boundsAt u c) := Lib.hid (by unfold boundsS; rw [hc])
  have hcut := fun w => commaCut u hs c hc w
  clear hc
  by_cases h1 : c < u.size
  · have HU : Hid (cutV u c = .tuple #[.string (u.extract 0 c), .string (u.extract (c + 1) u.size), .bool true]) := Lib.hid (by unfold cutV; rw [if_pos h1])
    rw [HU.out] at hcut
    have hsz1 : (u.extract 0 c).size ≤ 20000 := by rw [sub_size _ _ _ (by omega)]; omega
    have hsz2 : (u.extract (c + 1) u.size).size ≤ 20000 := by rw [drop_size]; omega
    rcases count_cases (u.extract 0 c) with hm | ⟨hlo, hlo2⟩
    · have HT := Lib.hid (times_no hm)
      have HV : Hid (boundsS u = none) := Lib.hid (by rw [HS.out]; unfold boundsAt; rw [if_pos h1]; split; rw [if_pos (by omega)]; rw [if_pos (by omega)])
      clear hm
      go_enter Try.func52, Try.ntmps52
      go_wp2_with fail
      refine (hcut _).mono ?_
      rintro e w1 ⟨rfl, q, rfl⟩
      go_wp2_with fail
      refine (lexTimesV _ hsz1 0 false HT.out.1 HT.out.2 _).mono ?_
      rintro e w1 ⟨rfl, rfl⟩
      go_wp2
      go_ret3
      exact ⟨txt_bounds HV.out rfl, _, rfl⟩
    · obtain ⟨x, hx⟩ : ∃ x, countS (u.extract 0 c) = x := ⟨_, rfl⟩
      rw [hx] at hlo hlo2
      have HX := Lib.hid hx
      have HT := Lib.hid (times_yes hx hlo)
      clear hx
      by_cases h2 : c + 1 < u.size
      · have ne2 : (u.extract (c + 1) u.size).toList.isEmpty = false := text_some (by rw [drop_size]; omega)
        rcases count_cases (u.extract (c + 1) u.size) with hm | ⟨hhi, hhi2⟩
        · have HT2 := Lib.hid (times_no hm)
          have HV : Hid (boundsS u = none) := Lib.hid (by rw [HS.out]; unfold boundsAt; rw [if_pos h1, if_pos h2, if_pos (by omega)])
          clear hm
          go_enter Try.func52, Try.ntmps52
          go_wp2_with fail
          refine (hcut _).mono ?_
          rintro e w1 ⟨rfl, q, rfl⟩
          go_wp2_with fail
          refine (lexTimesV _ hsz1 x true HT.out.1 HT.out.2 _).mono ?_
          rintro e w1 ⟨rfl, rfl⟩
          go_wp2_with fail
          refine (lexTimesV _ hsz2 0 false HT2.out.1 HT2.out.2 _).mono ?_
          rintro e w1 ⟨rfl, rfl⟩
          go_wp2
          go_ret3
          exact ⟨txt_bounds HV.out rfl, _, rfl⟩
        · obtain ⟨y, hy⟩ : ∃ y, countS (u.extract (c + 1) u.size) = y := ⟨_, rfl⟩
          rw [hy] at hhi hhi2
          have HT2 := Lib.hid (times_yes hy hhi)
          have HY := Lib.hid hy
          clear hy
          by_cases hyx : y < x
          · have g1 := txt_t hyx
            have HV : Hid (boundsS u = none) := Lib.hid (by rw [HS.out]; unfold boundsAt; rw [if_pos h1, if_pos h2, HX.out, HY.out, if_pos (by omega)])
            go_enter Try.func52, Try.ntmps52
            go_wp2_with fail
            refine (hcut _).mono ?_
            rintro e w1 ⟨rfl, q, rfl⟩
            go_wp2_with fail
            refine (lexTimesV _ hsz1 x true HT.out.1 HT.out.2 _).mono ?_
            rintro e w1 ⟨rfl, rfl⟩
            go_wp2_with fail
            refine (lexTimesV _ hsz2 y true HT2.out.1 HT2.out.2 _).mono ?_
            rintro e w1 ⟨rfl, rfl⟩
            go_wp2
            go_ret3
            exact ⟨txt_bounds HV.out rfl, _, rfl⟩
          · have g1 := txt_f hyx
            by_cases hy1 : y < 1
            · have g2 := txt_t hy1
              have HV : Hid (boundsS u = none) := Lib.hid (by rw [HS.out]; unfold boundsAt; rw [if_pos h1, if_pos h2, HX.out, HY.out, if_pos (by omega)])
              go_enter Try.func52, Try.ntmps52
              go_wp2_with fail
              refine (hcut _).mono ?_
              rintro e w1 ⟨rfl, q, rfl⟩
              go_wp2_with fail
              refine (lexTimesV _ hsz1 x true HT.out.1 HT.out.2 _).mono ?_
              rintro e w1 ⟨rfl, rfl⟩
              go_wp2_with fail
              refine (lexTimesV _ hsz2 y true HT2.out.1 HT2.out.2 _).mono ?_
              rintro e w1 ⟨rfl, rfl⟩
              go_wp2
              go_ret3
              exact ⟨txt_bounds HV.out rfl, _, rfl⟩
            · have g2 := txt_f hy1
              have HV : Hid (boundsS u = some (x, y)) := Lib.hid (by rw [HS.out]; unfold boundsAt; rw [if_pos h1, if_pos h2, HX.out, HY.out, if_neg (by omega)])
              go_enter Try.func52, Try.ntmps52
              go_wp2_with fail
              refine (hcut _).mono ?_
              rintro e w1 ⟨rfl, q, rfl⟩
              go_wp2_with fail
              refine (lexTimesV _ hsz1 x true HT.out.1 HT.out.2 _).mono ?_
              rintro e w1 ⟨rfl, rfl⟩
              go_wp2_with fail
              refine (lexTimesV _ hsz2 y true HT2.out.1 HT2.out.2 _).mono ?_
              rintro e w1 ⟨rfl, rfl⟩
              go_wp2
              go_ret3
              exact ⟨txt_bounds HV.out rfl, _, rfl⟩
      · have ne2 : (u.extract (c + 1) u.size).toList.isEmpty = true := empty_text (by rw [drop_size]; omega)
        have HV : Hid (boundsS u = some (x, -1)) := Lib.hid (by rw [HS.out]; unfold boundsAt; rw [if_pos h1, if_neg h2, HX.out, if_neg (by omega)])
        go_enter Try.func52, Try.ntmps52
        go_wp2_with fail
        refine (hcut _).mono ?_
        rintro e w1 ⟨rfl, q, rfl⟩
        go_wp2_with fail
        refine (lexTimesV _ hsz1 x true HT.out.1 HT.out.2 _).mono ?_
        rintro e w1 ⟨rfl, rfl⟩
        go_wp2
        go_ret3
        exact ⟨txt_bounds HV.out rfl, _, rfl⟩
  · have HU : Hid (cutV u c = .tuple #[.string u, .string { data := #[] }, .bool false]) := Lib.hid (by unfold cutV; rw [if_neg h1])
    rw [HU.out] at hcut
    rcases count_cases u with hm | ⟨hlo, hlo2⟩
    · have HT := Lib.hid (times_no hm)
      have HV : Hid (boundsS u = none) := Lib.hid (by rw [HS.out]; unfold boundsAt; rw [if_neg h1, if_pos (by omega)])
      clear hm
      go_enter Try.func52, Try.ntmps52
      go_wp2_with fail
      refine (hcut _).mono ?_
      rintro e w1 ⟨rfl, q, rfl⟩
      go_wp2_with fail
      refine (lexTimesV _ hs 0 false HT.out.1 HT.out.2 _).mono ?_
      rintro e w1 ⟨rfl, rfl⟩
      go_wp2
      go_ret3
      exact ⟨txt_bounds HV.out rfl, _, rfl⟩
    · obtain ⟨x, hx⟩ : ∃ x, countS u = x := ⟨_, rfl⟩
      rw [hx] at hlo hlo2
      have HX := Lib.hid hx
      have HT := Lib.hid (times_yes hx hlo)
      clear hx
      have g0 : decide (x < x) = false := txt_f (by omega)
      by_cases hx1 : x < 1
      · have g1 := txt_t hx1
        have HV : Hid (boundsS u = none) := Lib.hid (by rw [HS.out]; unfold boundsAt; rw [if_neg h1, HX.out, if_pos hx1])
        go_enter Try.func52, Try.ntmps52
        go_wp2_with fail
        refine (hcut _).mono ?_
        rintro e w1 ⟨rfl, q, rfl⟩
        go_wp2_with fail
        refine (lexTimesV _ hs x true HT.out.1 HT.out.2 _).mono ?_
        rintro e w1 ⟨rfl, rfl⟩
        go_wp2
        go_ret3
        exact ⟨txt_bounds HV.out rfl, _, rfl⟩
      · have g1 := txt_f hx1
        have HV : Hid (boundsS u = some (x, x)) := Lib.hid (by rw [HS.out]; unfold boundsAt; rw [if_neg h1, HX.out, if_neg hx1])
        go_enter Try.func52, Try.ntmps52
        go_wp2_with fail
        refine (hcut _).mono ?_
        rintro e w1 ⟨rfl, q, rfl⟩
        go_wp2_with fail
        refine (lexTimesV _ hs x true HT.out.1 HT.out.2 _).mono ?_
        rintro e w1 ⟨rfl, rfl⟩
        go_wp2
        go_ret3
        exact ⟨txt_bounds HV.out rfl, _, rfl⟩
end Go.Proofs.Ytkbfoelffeocmaa

/- What the program's isName answers. -/
namespace Go.Proofs.Ytkbfoelffeocmaa
open Go.RowKit
set_option linter.unusedSimpArgs false
set_option linter.unusedVariables false

theorem txt_nob {s : ByteArray} {v : Bool} (h : namedS s = v) : Ending.returned (.bool v) = .returned (.bool (namedS s)) := by rw [h]
set_option maxRecDepth 100000 in
set_option maxHeartbeats 4000000 in
theorem lexName (s : ByteArray) (hs : s.size ≤ 20000) (w : World) : Calls Try.prog 51 #[.string s] w fun e w' => e = .returned (.bool (namedS s)) ∧ w = w' := by
  by_cases h0 : s.size = 0
  · have he : s = ⟨#[]⟩ := by
      cases s with
      | mk a => cases a with
        | mk l => cases l with
          | nil => rfl
          | cons x r => simp [ByteArray.size] at h0
    subst he
    have HV : Hid (namedS ⟨#[]⟩ = false) := Lib.hid rfl
    go_enter Try.func51, Try.ntmps51
    go_wp2
    go_ret
    exact ⟨txt_nob HV.out, rfl⟩
  have hlt0 : 0 < s.size := by omega
  have ne0 := text_some hlt0
  by_cases s1 : (20 : Int) < (s.size : Int)
  · have d1 := txt_t s1
    have d1n := txt_t (show 20 < s.size by omega)
    have HV : Hid (namedS s = false) := Lib.hid (by unfold namedS; rw [decide_eq_false (by omega)]; rfl)
    go_enter Try.func51, Try.ntmps51
    go_wp2
    go_ret
    exact ⟨txt_nob HV.out, rfl⟩
  have d1 := txt_f s1
  have d1n := txt_f (show ¬ 20 < s.size by omega)
  obtain ⟨b0, hb0⟩ : ∃ b, (s[0]'hlt0).toNat = b := ⟨_, rfl⟩
  have hl0 : b0 < 256 := by rw [← hb0]; exact UInt8.toNat_lt _
  have HB0 : Hid (bt s 0 = b0) := Lib.hid (by rw [← bt_is hlt0]; exact hb0)
  obtain ⟨v, hv⟩ : ∃ v, alphaS b0 = v := ⟨_, rfl⟩
  have HA0 := Lib.hid hv
  clear hv
  rcases v with _ | _
  · have HV : Hid (namedS s = false) := Lib.hid (by unfold namedS; rw [HB0.out, HA0.out]; simp)
    go_enter Try.func51, Try.ntmps51
    go_wp2_with fail
    refine (lexLetterV b0 hl0 false HA0.out _).mono ?_
    rintro e w3 ⟨rfl, rfl⟩
    go_wp2
    go_ret
    exact ⟨txt_nob HV.out, rfl⟩
  · go_enter Try.func51, Try.ntmps51
    go_wp2_with fail
    refine (lexLetterV b0 hl0 true HA0.out _).mono ?_
    rintro e w3 ⟨rfl, rfl⟩
    go_wp2
    go_loop [20] (fun i => ∃ k : Nat, k ≤ s.size ∧ i = .int .i64 k ∧ Hid (nameTo s k = true)) (fun i => s.size - (intOf i).toNat)
    case atStart => exact ⟨0, Nat.zero_le _, rfl, Lib.hid rfl⟩
    case round =>
      obtain ⟨k, hk, rfl, HK⟩ := hrel
      by_cases hlt : k < s.size
      · obtain ⟨b, hb⟩ : ∃ b, (s[k]'hlt).toNat = b := ⟨_, rfl⟩
        have hl : b < 256 := by rw [← hb]; exact UInt8.toNat_lt _
        have HBt : Hid (bt s k = b) := Lib.hid (by rw [← bt_is hlt]; exact hb)
        have ok : inName b = true → Hid (nameTo s (k + 1) = true) := fun h => Lib.hid (by rw [nameTo_succ, HK.out, HBt.out, h]; rfl)
        have no : inName b = false → Hid (namedS s = false) := fun h => Lib.hid (named_not hlt (by rw [HBt.out]; exact h))
        obtain ⟨v, hv⟩ : ∃ v, alphaS b = v := ⟨_, rfl⟩
        have HA := Lib.hid hv
        clear hv
        rcases v with _ | _
        · by_cases hg : 48 ≤ b ∧ b ≤ 57
          · have HG : Hid (digS b = true) := Lib.hid (decide_eq_true (by omega))
            have HN := ok (by unfold inName; rw [HA.out, decide_eq_true (show (48 : Int) ≤ b by omega), decide_eq_true (show (b : Int) ≤ 57 by omega)]; simp)
            clear ok no
            go_wp2_with fail
            refine (lexLetterV b hl false HA.out _).mono ?_
            rintro e w3 ⟨rfl, rfl⟩
            go_wp2_with fail
            refine (lexDigitV b hl true HG.out _).mono ?_
            rintro e w3 ⟨rfl, rfl⟩
            go_wp2
            go_round
            case rel => exact ⟨k + 1, by omega, by go_num, HN⟩
            case measure => simp [intOf]; omega
          · have HG : Hid (digS b = false) := Lib.hid (decide_eq_false (by omega))
            by_cases e : b = 95
            · have HN := ok (by unfold inName; rw [HA.out, decide_eq_true (show (b : Int) = 95 by omega)]; rfl)
              clear ok no
              have f1 : ((b : Int) == 95) = true := by rw [beq_iff_eq]; omega
              have f2 : (b == 95) = true := by rw [beq_iff_eq]; omega
              have f3 : ((b : Int) != 95) = false := by rw [bne, f1]; rfl
              have f4 : (b != 95) = false := by rw [bne, f2]; rfl
              clear e
              go_wp2_with fail
              refine (lexLetterV b hl false HA.out _).mono ?_
              rintro e w3 ⟨rfl, rfl⟩
              go_wp2_with fail
              refine (lexDigitV b hl false HG.out _).mono ?_
              rintro e w3 ⟨rfl, rfl⟩
              go_wp2
              go_round
              case rel => exact ⟨k + 1, by omega, by go_num, HN⟩
              case measure => simp [intOf]; omega
            · have HV := no (by unfold inName; rw [HA.out, decide_eq_false (show ¬ (b : Int) = 95 by omega), show (decide ((48 : Int) ≤ b) && decide ((b : Int) ≤ 57)) = false from by rw [Bool.and_eq_false_iff, decide_eq_false_iff_not, decide_eq_false_iff_not]; omega]; rfl)
              clear ok no
              have f1 : ((b : Int) == 95) = false := beq_eq_false_iff_ne.2 (by omega)
              have f2 : (b == 95) = false := beq_eq_false_iff_ne.2 e
              have f3 : ((b : Int) != 95) = true := by rw [bne, f1]; rfl
              have f4 : (b != 95) = true := by rw [bne, f2]; rfl
              clear e
              go_wp2_with fail
              refine (lexLetterV b hl false HA.out _).mono ?_
              rintro e w3 ⟨rfl, rfl⟩
              go_wp2_with fail
              refine (lexDigitV b hl false HG.out _).mono ?_
              rintro e w3 ⟨rfl, rfl⟩
              go_wp2
              go_ret
              exact ⟨txt_nob HV.out, rfl⟩
        · have HN := ok (by unfold inName; rw [HA.out]; rfl)
          clear ok no
          go_wp2_with fail
          refine (lexLetterV b hl true HA.out _).mono ?_
          rintro e w3 ⟨rfl, rfl⟩
          go_wp2
          go_round
          case rel => exact ⟨k + 1, by omega, by go_num, HN⟩
          case measure => simp [intOf]; omega
      · obtain rfl : k = s.size := by omega
        have HV : Hid (namedS s = true) := Lib.hid (named_all (by omega) (by rw [HB0.out]; exact HA0.out) HK.out)
        go_wp2
        go_ret
        exact ⟨txt_nob HV.out, rfl⟩
theorem lexNameV (s : ByteArray) (hs : s.size ≤ 20000) (v : Bool) (hv : namedS s = v) (w : World) : Calls Try.prog 51 #[.string s] w fun e w' => e = .returned (.bool v) ∧ w = w' := by
  rw [← hv]; exact lexName s hs w
end Go.Proofs.Ytkbfoelffeocmaa

/- What the reference's class answers. -/
namespace Go.Proofs.Ytkbfoelffeocmaa
open Go.RowKit
set_option linter.unusedSimpArgs false
set_option linter.unusedVariables false

theorem below_drew {B : Nat} {W w : World} (h : Below B W w) (n : Nat) : Below B W (w.drewN n) := ⟨h.os, h.tape, h.output, h.size, h.block⟩
theorem emptyC_ok : emptyC.Ok := ⟨by show U64 0; unfold U64; decide, by show U64 0; unfold U64; decide, by show U64 0; unfold U64; decide, by show U64 0; unfold U64; decide⟩
def clsWords (c : St) : Array Value := #[.int .u64 c.w0, .int .u64 c.w1, .int .u64 c.w2, .int .u64 c.w3]
theorem cls_bad {s : ByteArray} {p j : Nat} (hj : j = if p + 1 < s.size ∧ bt s (p + 1) = 94 then p + 2 else p + 1) (h : classFrom s (s.size + 1) j emptyC = none) : classS s p = (emptyC, 0) := by unfold classS; rw [← hj, h]
theorem cls_past {s : ByteArray} {p j k : Nat} {c : St} (hj : j = if p + 1 < s.size ∧ bt s (p + 1) = 94 then p + 2 else p + 1) (h : classFrom s (s.size + 1) j emptyC = some (c, k)) (hk : s.size ≤ k) : classS s p = (emptyC, 0) := by unfold classS; rw [← hj, h]; dsimp only; rw [if_pos hk]
theorem cls_is {s : ByteArray} {p k : Nat} {c : St} (hn : ¬ (p + 1 < s.size ∧ bt s (p + 1) = 94)) (h : classFrom s (s.size + 1) (p + 1) emptyC = some (c, k)) (hk : ¬ s.size ≤ k) : classS s p = (c, (k : Int) + 1 - p) := by unfold classS; rw [if_neg hn, h]; dsimp only; rw [if_neg hk, if_neg hn]
theorem cls_not {s : ByteArray} {p k : Nat} {c : St} (hn : p + 1 < s.size ∧ bt s (p + 1) = 94) (h : classFrom s (s.size + 1) (p + 2) emptyC = some (c, k)) (hk : ¬ s.size ≤ k) : classS s p = (c.not, (k : Int) + 1 - p) := by unfold classS; rw [if_pos hn, h]; dsimp only; rw [if_neg hk, if_pos hn]

end Go.Proofs.Ytkbfoelffeocmaa

/- What the reference's class answers where a ^ stands ahead, and at the text's end. -/
namespace Go.Proofs.Ytkbfoelffeocmaa
open Go.RowKit
set_option linter.unusedSimpArgs false
set_option linter.unusedVariables false

theorem bits_not' (a : Nat) (ha : U64 a) : bits .xor .u64 (a : Int) 18446744073709551615 = ((M64 - a : Nat) : Int) := by
  unfold U64 at ha
  show IntKind.u64.wrap ((BitVec.ofInt 64 (a : Int) ^^^ BitVec.ofInt 64 18446744073709551615).toNat : Int) = _
  have h1 : BitVec.ofInt 64 18446744073709551615 = BitVec.allOnes 64 := by decide
  rw [h1, BitVec.xor_allOnes, BitVec.toNat_not, ofInt_u64 a (by omega), IntKind.wrap_u64]
  unfold M64
  omega
/-- The first q words are turned. -/
def notTo (c : St) : Nat → St
  | 0 => c
  | 1 => ⟨M64 - c.w0, c.w1, c.w2, c.w3⟩
  | 2 => ⟨M64 - c.w0, M64 - c.w1, c.w2, c.w3⟩
  | 3 => ⟨M64 - c.w0, M64 - c.w1, M64 - c.w2, c.w3⟩
  | _ => c.not

end Go.Proofs.Ytkbfoelffeocmaa

/- Words as they are told, and what the reference's braces answers. -/
namespace Go.Proofs.Ytkbfoelffeocmaa
open Go.RowKit
set_option linter.unusedSimpArgs false
set_option linter.unusedVariables false

/-- A word without its place. -/
structure Wd where
  kind : Int
  set : St
  name : ByteArray
  lo : Int
  hi : Int
def wd0 : Wd := ⟨0, emptyC, { data := #[] }, 0, 0⟩
def wdCells (x : Wd) (p : Int) : Array Value := #[.int .i64 x.kind, .int .i64 p, .int .u64 x.set.w0, .int .u64 x.set.w1, .int .u64 x.set.w2, .int .u64 x.set.w3, .string x.name, .int .i64 x.lo, .int .i64 x.hi]
/-- What begins with a { at a place, its } standing at e. -/
def bracesAt (s : ByteArray) (p e : Nat) : Wd × Int :=
  if s.size ≤ e then (wd0, 0)
  else if namedS (s.extract (p + 1) e) = true then (⟨11, emptyC, s.extract (p + 1) e, 0, 0⟩, (e : Int) + 1 - p)
  else match boundsS (s.extract (p + 1) e) with
    | none => (wd0, 0)
    | some (a, b) => (⟨10, emptyC, { data := #[] }, a, b⟩, (e : Int) + 1 - p)
def bracesS (s : ByteArray) (p : Nat) : Wd × Int := bracesAt s p (findS s 125 (s.size + 1) (p + 1))
theorem braces_past {s : ByteArray} {p e : Nat} (h : s.size ≤ e) : bracesAt s p e = (wd0, 0) := by unfold bracesAt; rw [if_pos h]
theorem braces_name {s u : ByteArray} {p e : Nat} (h : ¬ s.size ≤ e) (hu : s.extract (p + 1) e = u) (hn : namedS u = true) : bracesAt s p e = (⟨11, emptyC, u, 0, 0⟩, (e : Int) + 1 - p) := by unfold bracesAt; rw [if_neg h, hu, if_pos hn]
theorem braces_no {s u : ByteArray} {p e : Nat} (h : ¬ s.size ≤ e) (hu : s.extract (p + 1) e = u) (hn : namedS u = false) (hb : boundsS u = none) : bracesAt s p e = (wd0, 0) := by unfold bracesAt; rw [if_neg h, hu, if_neg (by rw [hn]; exact Bool.false_ne_true), hb]
theorem braces_yes {s u : ByteArray} {p e : Nat} {a b : Int} (h : ¬ s.size ≤ e) (hu : s.extract (p + 1) e = u) (hn : namedS u = false) (hb : boundsS u = some (a, b)) : bracesAt s p e = (⟨10, emptyC, { data := #[] }, a, b⟩, (e : Int) + 1 - p) := by unfold bracesAt; rw [if_neg h, hu, if_neg (by rw [hn]; exact Bool.false_ne_true), hb]
theorem extract_all (u : ByteArray) : u.extract 0 u.size = u := by
  apply ByteArray.ext
  rw [ByteArray.data_extract]
  exact Array.extract_size
theorem txt_word {p : Wd × Int} {x : Wd} {n : Int} (h : p = (x, n)) : Ending.returned (.tuple #[.agg (wdCells x 0), .int .i64 n]) = .returned (.tuple #[.agg (wdCells p.1 0), .int .i64 p.2]) := by rw [h]

end Go.Proofs.Ytkbfoelffeocmaa

/- strings.Clone answers the same bytes (the library's contract, laid over this program). -/
namespace Go.Proofs.Ytkbfoelffeocmaa
open Go.RowKit
def cloneNums : Go.Shelf.Ren := ⟨fun | 316 => 23 | n => n, fun | 9 => 9 | 3 => 3 | 4 => 4 | 37 => 83 | 0 => 0 | 127 => 84 | 5 => 5 | n => n, fun | n => n⟩
theorem cloneLays : Go.Proofs.LaysM.n316 Try.prog cloneNums := {
  mixed := by kernel_rfl
  f316 := Try.func23.trans (congrArg some (by kernel_rfl))
  t0 := Try.underlying0
  a0 := Try.isAgg0
  z0 := Try.sizeOf0
  v0 := Try.zeroValue0
  t3 := Try.underlying3
  a3 := Try.isAgg3
  z3 := Try.sizeOf3
  v3 := Try.zeroValue3
  t4 := Try.underlying4
  a4 := Try.isAgg4
  z4 := Try.sizeOf4
  v4 := Try.zeroValue4
  t9 := Try.underlying9
  a9 := Try.isAgg9
  z9 := Try.sizeOf9
  v9 := Try.zeroValue9
  t37 := Try.underlying83
  a37 := Try.isAgg83
  z37 := Try.sizeOf83
  v37 := Try.zeroValue83
  t127 := Try.underlying84
  a127 := Try.isAgg84
  z127 := Try.sizeOf84
  v127 := Try.zeroValue84
  t5 := Try.underlying5
  a5 := Try.isAgg5
  z5 := Try.sizeOf5
  v5 := Try.zeroValue5
  i0 := by kernel_rfl
  i3 := by kernel_rfl
  i4 := by kernel_rfl
  i5 := by kernel_rfl
  i9 := by kernel_rfl
  i37 := by kernel_rfl
  i127 := by kernel_rfl }
theorem libClone (s : ByteArray) (w : World) (hlim : s.size ≤ 281474976710656) :
    Calls Try.prog 23 #[.string s] w fun e w' => e = .returned (.string s) ∧ Below w.heap.size w w' := Any.stringslite_Clone cloneLays s w hlim
theorem textClone (s : ByteArray) (w : World) (hlim : s.size ≤ 281474976710656) :
    Calls Try.prog 16 #[.string s] w fun e w' => e = .returned (.string s) ∧ Below w.heap.size w w' := by
  go_enter Try.func16, Try.ntmps16
  go_wp2_with fail
  refine (libClone s _ hlim).mono ?_
  rintro e w1 ⟨rfl, hb⟩
  go_wp2_with fail
  go_ret
  exact ⟨rfl, hb⟩
end Go.Proofs.Ytkbfoelffeocmaa

/- A word in a block of memory, and what the program's braces answers. -/
namespace Go.Proofs.Ytkbfoelffeocmaa
open Go.RowKit
set_option linter.unusedSimpArgs false
set_option linter.unusedVariables false

/-- A word lies in block g. -/
def WdAt (w : World) (g : Nat) (x : Wd) (p : Int) : Prop := At w g 57 (wdCells x p)
theorem WdAt.cells {w : World} {g : Nat} {x : Wd} {p : Int} (h : WdAt w g x p) :
    w.cell? ⟨g, 0, none⟩ = some (.int .i64 x.kind) ∧ w.cell? ⟨g, 1, none⟩ = some (.int .i64 p) ∧ w.cell? ⟨g, 2, none⟩ = some (.int .u64 x.set.w0) ∧ w.cell? ⟨g, 3, none⟩ = some (.int .u64 x.set.w1) ∧ w.cell? ⟨g, 4, none⟩ = some (.int .u64 x.set.w2) ∧ w.cell? ⟨g, 5, none⟩ = some (.int .u64 x.set.w3) ∧ w.cell? ⟨g, 6, none⟩ = some (.string x.name) ∧ w.cell? ⟨g, 7, none⟩ = some (.int .i64 x.lo) ∧ w.cell? ⟨g, 8, none⟩ = some (.int .i64 x.hi) :=
  ⟨At.cell h 0, At.cell h 1, At.cell h 2, At.cell h 3, At.cell h 4, At.cell h 5, At.cell h 6, At.cell h 7, At.cell h 8⟩
theorem WdAt.frees {w : World} {g : Nat} {x : Wd} {p : Int} (h : WdAt w g x p) :
    w.frozen? ⟨g, 0, none⟩ = false ∧ w.frozen? ⟨g, 1, none⟩ = false ∧ w.frozen? ⟨g, 2, none⟩ = false ∧ w.frozen? ⟨g, 3, none⟩ = false ∧ w.frozen? ⟨g, 4, none⟩ = false ∧ w.frozen? ⟨g, 5, none⟩ = false ∧ w.frozen? ⟨g, 6, none⟩ = false ∧ w.frozen? ⟨g, 7, none⟩ = false ∧ w.frozen? ⟨g, 8, none⟩ = false :=
  ⟨At.free h 0, At.free h 1, At.free h 2, At.free h 3, At.free h 4, At.free h 5, At.free h 6, At.free h 7, At.free h 8⟩
/-- A word is stored into block g. -/
def stW (w : World) (g : Nat) (x : Wd) (p : Int) : World :=
  ((((((((w.setCell ⟨g, 0, none⟩ (.int .i64 x.kind)).setCell ⟨g, 1, none⟩ (.int .i64 p)).setCell ⟨g, 2, none⟩ (.int .u64 x.set.w0)).setCell ⟨g, 3, none⟩ (.int .u64 x.set.w1)).setCell ⟨g, 4, none⟩ (.int .u64 x.set.w2)).setCell ⟨g, 5, none⟩ (.int .u64 x.set.w3)).setCell ⟨g, 6, none⟩ (.string x.name)).setCell ⟨g, 7, none⟩ (.int .i64 x.lo)).setCell ⟨g, 8, none⟩ (.int .i64 x.hi)
theorem WdAt.store {w : World} {g : Nat} {x : Wd} {p : Int} (h : WdAt w g x p) (y : Wd) (q : Int) : WdAt (stW w g y q) g y q := by
  have h1 := ((((((((At.set h 0 (.int .i64 y.kind)).set 1 (.int .i64 q)).set 2 (.int .u64 y.set.w0)).set 3 (.int .u64 y.set.w1)).set 4 (.int .u64 y.set.w2)).set 5 (.int .u64 y.set.w3)).set 6 (.string y.name)).set 7 (.int .i64 y.lo)).set 8 (.int .i64 y.hi)
  simp only [wdCells, List.setIfInBounds_toArray, List.set_cons_zero, List.set_cons_succ] at h1
  exact h1
theorem WdAt.other {w : World} {g g' : Nat} {x : Wd} {p : Int} (h : WdAt w g x p) (hne : g ≠ g') (y : Wd) (q : Int) : WdAt (stW w g' y q) g x p :=
  At.other (At.other (At.other (At.other (At.other (At.other (At.other (At.other (At.other h hne _) hne _) hne _) hne _) hne _) hne _) hne _) hne _) hne _
theorem below_stW {B : Nat} {W w : World} (h : Below B W w) {g : Nat} (hg : B ≤ g) (x : Wd) (p : Int) : Below B W (stW w g x p) :=
  ((((((((h.setCell hg _).setCell hg _).setCell hg _).setCell hg _).setCell hg _).setCell hg _).setCell hg _).setCell hg _).setCell hg _
theorem WdAt.next {w w' : World} {g : Nat} {x : Wd} {p : Int} (h : WdAt w g x p) (hb : Below w.heap.size w w') : WdAt w' g x p := At.below h hb (At.lt h)
theorem WdAt.drewN {w : World} {g : Nat} {x : Wd} {p : Int} (h : WdAt w g x p) (n : Nat) : WdAt (w.drewN n) g x p := h
theorem WdAt.alloc {w : World} {g : Nat} {x : Wd} {p : Int} (h : WdAt w g x p) (o : Obj) : WdAt (w.alloc o) g x p := At.alloc h o
theorem WdAt.new (w : World) (x : Wd) (p : Int) : WdAt (w.alloc (.cells (wdCells x p) 57)) w.heap.size x p := At.new _ _ _
/-- The zero word in a new block. -/
def zw (w : World) : World := w.alloc (.cells #[.int .i64 0, .int .i64 0, .int .u64 0, .int .u64 0, .int .u64 0, .int .u64 0, .string { data := #[] }, .int .i64 0, .int .i64 0] 57)
theorem WdAt.zero (w : World) : WdAt (zw w) w.heap.size wd0 0 := At.new _ _ _
theorem zw_below (w : World) : Below w.heap.size w (zw w) := (Below.refl _ _).alloc (Nat.le_refl _) _
theorem zw_size (w : World) : (zw w).heap.size = w.heap.size + 1 := World.size_alloc _ _
theorem find_fuel (t : ByteArray) (c : Nat) : ∀ f g i, t.size < i + f → t.size < i + g → findS t c f i = findS t c g i := by
  intro f
  induction f with
  | zero => intro g i h1 h2; cases g with | zero => rfl | succ g => rw [find_here (Or.inl (by omega))]; rfl
  | succ f ih =>
    intro g i h1 h2
    cases g with
    | zero => rw [find_here (Or.inl (by omega))]; rfl
    | succ g =>
      by_cases h : t.size ≤ i ∨ bt t i = c
      · rw [find_here h, find_here h]
      · rw [find_next h, find_next h]; exact ih g (i + 1) (by omega) (by omega)
theorem find_le (t : ByteArray) (c : Nat) : ∀ f i, i ≤ findS t c f i
  | 0, i => Nat.le_refl _
  | f + 1, i => by
    by_cases h : t.size ≤ i ∨ bt t i = c
    · rw [find_here h]; exact Nat.le_refl _
    · rw [find_next h]; have := find_le t c f (i + 1); omega

set_option maxRecDepth 100000 in
set_option maxHeartbeats 4000000 in
theorem lexBraces (s : ByteArray) (hs : s.size ≤ 20000) (h0 : 0 < s.size) (hb0 : bt s 0 = 123) (w : World) :
    Calls Try.prog 33 #[.string s] w fun e w' => e = .returned (.tuple #[.agg (wdCells (bracesS s 0).1 0), .int .i64 (bracesS s 0).2]) ∧ Below w.heap.size w w' := by
  obtain ⟨k, hk⟩ : ∃ k, findS s 125 (s.size + 1) (0 + 1) = k := ⟨_, rfl⟩
  have hk0 : findS s 125 (s.size + 1) 0 = k := by
    rw [find_next (by omega), ← hk]
    exact find_fuel s 125 _ _ _ (by omega) (by omega)
  have h1k : 1 ≤ k := by rw [← hk]; exact find_le s 125 _ 1
  have HE : Hid (bracesS s 0 = bracesAt s 0 k) := Lib.hid (by unfold bracesS; rw [hk])
  by_cases hlt : k < s.size
  · have HI : Hid ((if findS s 125 (s.size + 1) 0 < s.size then ((findS s 125 (s.size + 1) 0 : Nat) : Int) else -1) = (k : Int)) := Lib.hid (by rw [hk0, if_pos hlt])
    have hke : ¬ s.size ≤ k := by omega
    have hks : k ≤ s.size := by omega
    obtain ⟨u, hu⟩ : ∃ u, s.extract 1 k = u := ⟨_, rfl⟩
    have HUX : Hid (s.extract (0 + 1) k = u) := Lib.hid hu
    have hus : u.size ≤ 20000 := by rw [← hu, sub_size _ _ _ hks]; omega
    obtain ⟨v, hv⟩ : ∃ v, namedS u = v := ⟨_, rfl⟩
    have HNM := Lib.hid hv
    have d1 : decide ((k : Int) < 0) = false := txt_f (by omega)
    clear hv hk hk0
    rcases v with _ | _
    · obtain ⟨r, hr⟩ : ∃ r, boundsS u = r := ⟨_, rfl⟩
      have HR := Lib.hid hr
      have hbd := fun w => lexBounds u hus w
      rw [hr] at hbd
      clear hr
      rcases r with _ | ⟨a, b⟩
      · have HV : Hid (bracesS s 0 = (wd0, 0)) := Lib.hid (by rw [HE.out]; exact braces_no hke HUX.out HNM.out HR.out)
        simp only [boundsV] at hbd
        go_enter Try.func33, Try.ntmps33
        go_wp2_with fail
        refine (textIndexByte s 125 (by omega) (s.size + 1) (by omega) k HI.out _).mono ?_
        rintro e w1 ⟨rfl, rfl⟩
        go_wp2_with fail
        refine (lexNameV u hus false HNM.out _).mono ?_
        rintro e w1 ⟨rfl, rfl⟩
        go_wp2_with fail
        refine (hbd _).mono ?_
        rintro e w1 ⟨rfl, q, rfl⟩
        obtain ⟨y0, y1, y2, y3, y4, y5, y6, y7, y8⟩ := ((WdAt.zero w).drewN q).frees
        obtain ⟨z0, z1, z2, z3, z4, z5, z6, z7, z8⟩ := ((WdAt.zero w).drewN q).cells
        go_wp2_with fail
        exact bodyPost_ret (results_row_tmp Try.results33 _ _ w.heap.size 57 _ (0, 0) _ rfl (((WdAt.zero w).drewN q).store wd0 0) Try.underlying57 rfl (by kernel_rfl)) rfl ⟨by rw [HV.out]; rfl, below_stW (below_drew (zw_below w) q) (Nat.le_refl _) wd0 0⟩
      · have HV : Hid (bracesS s 0 = (⟨10, emptyC, { data := #[] }, a, b⟩, (k : Int) + 1)) := Lib.hid (by rw [HE.out, braces_yes hke HUX.out HNM.out HR.out]; simp)
        simp only [boundsV] at hbd
        go_enter Try.func33, Try.ntmps33
        go_wp2_with fail
        refine (textIndexByte s 125 (by omega) (s.size + 1) (by omega) k HI.out _).mono ?_
        rintro e w1 ⟨rfl, rfl⟩
        go_wp2_with fail
        refine (lexNameV u hus false HNM.out _).mono ?_
        rintro e w1 ⟨rfl, rfl⟩
        go_wp2_with fail
        refine (hbd _).mono ?_
        rintro e w1 ⟨rfl, q, rfl⟩
        obtain ⟨y0, y1, y2, y3, y4, y5, y6, y7, y8⟩ := ((WdAt.zero w).drewN q).frees
        obtain ⟨z0, z1, z2, z3, z4, z5, z6, z7, z8⟩ := ((WdAt.zero w).drewN q).cells
        go_wp2_with fail
        exact bodyPost_ret (results_row_tmp Try.results33 _ _ w.heap.size 57 _ (0, 0) _ rfl (((WdAt.zero w).drewN q).store ⟨10, emptyC, { data := #[] }, a, b⟩ 0) Try.underlying57 rfl (by kernel_rfl)) rfl ⟨by rw [HV.out]; rfl, below_stW (below_drew (zw_below w) q) (Nat.le_refl _) ⟨10, emptyC, { data := #[] }, a, b⟩ 0⟩
    · have HV : Hid (bracesS s 0 = (⟨11, emptyC, u, 0, 0⟩, (k : Int) + 1)) := Lib.hid (by rw [HE.out, braces_name hke HUX.out HNM.out]; simp)
      go_enter Try.func33, Try.ntmps33
      go_wp2_with fail
      refine (textIndexByte s 125 (by omega) (s.size + 1) (by omega) k HI.out _).mono ?_
      rintro e w1 ⟨rfl, rfl⟩
      go_wp2_with fail
      refine (lexNameV u hus true HNM.out _).mono ?_
      rintro e w1 ⟨rfl, rfl⟩
      go_wp2_with fail
      refine (textClone u _ (by omega)).mono ?_
      rintro e w1 ⟨rfl, hb1⟩
      have HZ1 := Lib.hid ((WdAt.zero w).next hb1)
      have hB1 : Below w.heap.size w w1 := (zw_below w).trans (hb1.mono (zw_below w).size)
      obtain ⟨y0, y1, y2, y3, y4, y5, y6, y7, y8⟩ := HZ1.out.frees
      obtain ⟨z0, z1, z2, z3, z4, z5, z6, z7, z8⟩ := HZ1.out.cells
      clear hb1
      go_wp2_with fail
      exact bodyPost_ret (results_row_tmp Try.results33 _ _ w.heap.size 57 _ (0, 0) _ rfl (HZ1.out.store ⟨11, emptyC, u, 0, 0⟩ 0) Try.underlying57 rfl (by kernel_rfl)) rfl ⟨by rw [HV.out]; rfl, below_stW hB1 (Nat.le_refl _) ⟨11, emptyC, u, 0, 0⟩ 0⟩
  · have HI : Hid ((if findS s 125 (s.size + 1) 0 < s.size then ((findS s 125 (s.size + 1) 0 : Nat) : Int) else -1) = -1) := Lib.hid (by rw [hk0, if_neg hlt])
    have HV : Hid (bracesS s 0 = (wd0, 0)) := Lib.hid (by rw [HE.out, braces_past (by omega)])
    clear hk hk0
    go_enter Try.func33, Try.ntmps33
    go_wp2_with fail
    refine (textIndexByte s 125 (by omega) (s.size + 1) (by omega) (-1) HI.out _).mono ?_
    rintro e w1 ⟨rfl, rfl⟩
    go_wp2_with fail
    refine bodyPost_ret (v := .tuple #[.agg (wdCells wd0 0), .int .i64 0]) (by simp [results, Try.results33, go_sem, wdCells, wd0, emptyC]) rfl ⟨txt_word HV.out, ?_⟩
    repeat (first | exact Below.refl _ _ | refine Below.drew ?_ | refine Below.alloc ?_ (by simp; try omega) _)
end Go.Proofs.Ytkbfoelffeocmaa
