/- Bytes of texts, and what the reference's value, Alpha and in answer. -/
import Derived.Test.YtdcldhkpmihahaaProg
import Derived.WalkKit
import Derived.WalkSpells
import Derived.WalkLawsBesides
import Derived.Lib.Hide
namespace Go.Proofs.Ytdcldhkpmihahaa
open Go.RowKit
set_option linter.unusedSimpArgs false
set_option linter.unusedVariables false

/-- Byte i of a text; 0 behind its end. -/
def bt (s : ByteArray) (i : Nat) : Nat := if h : i < s.size then (s[i]'h).toNat else 0
theorem bt_is {s : ByteArray} {i : Nat} (h : i < s.size) : (s[i]'h).toNat = bt s i := by unfold bt; rw [dif_pos h]
theorem bt_lt (s : ByteArray) (i : Nat) : bt s i < 256 := by unfold bt; split; exact UInt8.toNat_lt _; omega
def valueS (c : Int) : Int := if 48 ≤ c ∧ c ≤ 57 then c - 48 else if 97 ≤ c ∧ c ≤ 102 then c - 97 + 10 else if 65 ≤ c ∧ c ≤ 70 then c - 65 + 10 else -1
theorem valueS_bounds (c : Int) : -1 ≤ valueS c ∧ valueS c ≤ 15 := by unfold valueS; (repeat' split) <;> omega
def alphaS (c : Int) : Bool := decide ((97 ≤ c ∧ c ≤ 122) ∨ (65 ≤ c ∧ c ≤ 90))
theorem txt_int {k : IntKind} {a b : Int} (h : a = b) : Ending.returned (.int k a) = .returned (.int k b) := by rw [h]
theorem txt_bool {a b : Bool} (h : a = b) : Ending.returned (.bool a) = .returned (.bool b) := by rw [h]
theorem txt_t {p : Prop} [Decidable p] (h : p) : decide p = true := decide_eq_true h
theorem txt_f {p : Prop} [Decidable p] (h : ¬ p) : decide p = false := decide_eq_false h

set_option maxRecDepth 100000 in
theorem refValue (c : Int) (h0 : 0 ≤ c) (h1 : c ≤ 255) (w : World) : Calls Try.prog 39 #[.int .u8 c] w fun e w' => e = .returned (.int .i64 (valueS c)) ∧ w = w' := by
  have hs : ∀ x : Int, valueS c = x → Hid (valueS c = x) := fun x h => Lib.hid h
  by_cases a1 : 48 ≤ c
  · have d1 := txt_t a1
    by_cases a2 : c ≤ 57
    · have d2 := txt_t a2
      have HS := hs (c - 48) (by unfold valueS; rw [if_pos ⟨a1, a2⟩])
      clear hs
      go_enter Try.func39, Try.ntmps39
      go_wp2
      go_ret
      exact ⟨txt_int HS.out.symm, rfl⟩
    · have d2 := txt_f a2
      by_cases a3 : 97 ≤ c
      · have d3 := txt_t a3
        by_cases a4 : c ≤ 102
        · have d4 := txt_t a4
          have HS := hs (c - 97 + 10) (by unfold valueS; rw [if_neg (by omega), if_pos ⟨a3, a4⟩])
          clear hs
          go_enter Try.func39, Try.ntmps39
          go_wp2
          go_ret
          exact ⟨txt_int HS.out.symm, rfl⟩
        · have d4 := txt_f a4
          have a5 : 65 ≤ c := by omega
          have d5 := txt_t a5
          have a6 : ¬ c ≤ 70 := by omega
          have d6 := txt_f a6
          have HS := hs (-1) (by unfold valueS; rw [if_neg (by omega), if_neg (by omega), if_neg (by omega)])
          clear hs
          go_enter Try.func39, Try.ntmps39
          go_wp2
          go_ret
          exact ⟨txt_int HS.out.symm, rfl⟩
      · have d3 := txt_f a3
        by_cases a5 : 65 ≤ c
        · have d5 := txt_t a5
          by_cases a6 : c ≤ 70
          · have d6 := txt_t a6
            have HS := hs (c - 65 + 10) (by unfold valueS; rw [if_neg (by omega), if_neg (by omega), if_pos ⟨a5, a6⟩])
            clear hs
            go_enter Try.func39, Try.ntmps39
            go_wp2
            go_ret
            exact ⟨txt_int HS.out.symm, rfl⟩
          · have d6 := txt_f a6
            have HS := hs (-1) (by unfold valueS; rw [if_neg (by omega), if_neg (by omega), if_neg (by omega)])
            clear hs
            go_enter Try.func39, Try.ntmps39
            go_wp2
            go_ret
            exact ⟨txt_int HS.out.symm, rfl⟩
        · have d5 := txt_f a5
          have HS := hs (-1) (by unfold valueS; rw [if_neg (by omega), if_neg (by omega), if_neg (by omega)])
          clear hs
          go_enter Try.func39, Try.ntmps39
          go_wp2
          go_ret
          exact ⟨txt_int HS.out.symm, rfl⟩
  · have d1 := txt_f a1
    have a3 : ¬ 97 ≤ c := by omega
    have d3 := txt_f a3
    have a5 : ¬ 65 ≤ c := by omega
    have d5 := txt_f a5
    have HS := hs (-1) (by unfold valueS; rw [if_neg (by omega), if_neg (by omega), if_neg (by omega)])
    clear hs
    go_enter Try.func39, Try.ntmps39
    go_wp2
    go_ret
    exact ⟨txt_int HS.out.symm, rfl⟩

set_option maxRecDepth 100000 in
theorem refAlpha (c : Int) (h0 : 0 ≤ c) (h1 : c ≤ 255) (w : World) : Calls Try.prog 40 #[.int .u8 c] w fun e w' => e = .returned (.bool (alphaS c)) ∧ w = w' := by
  obtain ⟨v, hv⟩ : ∃ v, alphaS c = v := ⟨_, rfl⟩
  rw [hv]
  have hvt : v = true ↔ ((97 ≤ c ∧ c ≤ 122) ∨ (65 ≤ c ∧ c ≤ 90)) := by rw [← hv]; unfold alphaS; exact decide_eq_true_iff
  have hvf : v = false ↔ ¬ ((97 ≤ c ∧ c ≤ 122) ∨ (65 ≤ c ∧ c ≤ 90)) := by rw [← hvt]; simp
  clear hv
  by_cases a1 : 97 ≤ c
  · have d1 := txt_t a1
    by_cases a2 : c ≤ 122
    · have d2 := txt_t a2
      have HS : Hid (v = true) := Lib.hid (hvt.2 (by omega))
      clear hvt hvf
      go_enter Try.func40, Try.ntmps40
      go_wp2
      go_ret
      exact ⟨txt_bool HS.out.symm, rfl⟩
    · have d2 := txt_f a2
      have a3 : 65 ≤ c := by omega
      have d3 := txt_t a3
      have a4 : ¬ c ≤ 90 := by omega
      have d4 := txt_f a4
      have HS : Hid (v = false) := Lib.hid (hvf.2 (by omega))
      clear hvt hvf
      go_enter Try.func40, Try.ntmps40
      go_wp2
      go_ret
      exact ⟨txt_bool HS.out.symm, rfl⟩
  · have d1 := txt_f a1
    by_cases a3 : 65 ≤ c
    · have d3 := txt_t a3
      by_cases a4 : c ≤ 90
      · have d4 := txt_t a4
        have HS : Hid (v = true) := Lib.hid (hvt.2 (by omega))
        clear hvt hvf
        go_enter Try.func40, Try.ntmps40
        go_wp2
        go_ret
        exact ⟨txt_bool HS.out.symm, rfl⟩
      · have d4 := txt_f a4
        have HS : Hid (v = false) := Lib.hid (hvf.2 (by omega))
        clear hvt hvf
        go_enter Try.func40, Try.ntmps40
        go_wp2
        go_ret
        exact ⟨txt_bool HS.out.symm, rfl⟩
    · have d3 := txt_f a3
      have HS : Hid (v = false) := Lib.hid (hvf.2 (by omega))
      clear hvt hvf
      go_enter Try.func40, Try.ntmps40
      go_wp2
      go_ret
      exact ⟨txt_bool HS.out.symm, rfl⟩

/-- Is c among the first k bytes? -/
def inTo (s : ByteArray) (c : Nat) (k : Nat) : Bool := (List.range k).any (fun i => bt s i == c)
def inS (s : ByteArray) (c : Nat) : Bool := inTo s c s.size
theorem inTo_succ (s : ByteArray) (c k : Nat) : inTo s c (k + 1) = (inTo s c k || (bt s k == c)) := by unfold inTo; rw [List.range_succ, List.any_append]; simp
theorem inTo_mono (s : ByteArray) (c k : Nat) (h : inTo s c k = true) : ∀ i, inTo s c (k + i) = true
  | 0 => h
  | i + 1 => by rw [show k + (i + 1) = (k + i) + 1 by omega, inTo_succ, inTo_mono s c k h i]; rfl
theorem inS_at {s : ByteArray} {c k : Nat} (h : k < s.size) (e : bt s k = c) : inS s c = true := by
  have h1 : inTo s c (k + 1) = true := by rw [inTo_succ, e]; simp
  have := inTo_mono s c (k + 1) h1 (s.size - (k + 1))
  rwa [show k + 1 + (s.size - (k + 1)) = s.size by omega] at this

set_option maxRecDepth 100000 in
set_option maxHeartbeats 1000000 in
theorem refIn (s : ByteArray) (c : Nat) (hs : s.size ≤ 9223372036854775807) (w : World) : Calls Try.prog 10 #[.string s, .int .u8 c] w fun e w' => e = .returned (.bool (inS s c)) ∧ w = w' := by
  go_enter Try.func10, Try.ntmps10
  go_wp2
  go_loop [8] (fun i => ∃ k : Nat, k ≤ s.size ∧ i = .int .i64 k ∧ Hid (inTo s c k = false)) (fun i => s.size - (intOf i).toNat)
  case atStart => exact ⟨0, Nat.zero_le _, rfl, Lib.hid rfl⟩
  case round =>
    obtain ⟨k, hk, rfl, HK⟩ := hrel
    by_cases hlt : k < s.size
    · obtain ⟨b, hb⟩ : ∃ b, (s[k]'hlt).toNat = b := ⟨_, rfl⟩
      have hbt : bt s k = b := by rw [← bt_is hlt]; exact hb
      have HBt := Lib.hid hbt
      clear hbt
      by_cases he : b = c
      · have HE := Lib.hid (inS_at hlt (HBt.out.trans he))
        have de : ((b : Int) == (c : Int)) = true := by rw [beq_iff_eq]; omega
        have de2 : (b == c) = true := by rw [beq_iff_eq]; exact he
        clear he
        go_wp2
        go_ret
        exact ⟨txt_bool HE.out.symm, rfl⟩
      · have HN : Hid (inTo s c (k + 1) = false) := by rw [inTo_succ, HK.out, HBt.out, beq_eq_false_iff_ne.2 he]; exact rfl
        have hne : ¬ (b : Int) = (c : Int) := by omega
        have de : ((b : Int) == (c : Int)) = false := beq_eq_false_iff_ne.2 hne
        have de2 : (b == c) = false := beq_eq_false_iff_ne.2 he
        go_wp2
        go_round
        case rel => exact ⟨k + 1, by omega, by go_num, HN⟩
        case measure => simp [intOf]; omega
    · obtain rfl : k = s.size := by omega
      go_wp2
      go_ret
      exact ⟨txt_bool HK.out.symm, rfl⟩

end Go.Proofs.Ytdcldhkpmihahaa
