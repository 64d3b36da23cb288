/- What set.Fold answers, and the reference's Other: letters in both ways. -/
import Derived.Test.YtdcmalfjciekoaaProg
import Derived.Test.YtdcmalfjciekoaaWords
namespace Go.Proofs.Ytdcmalfjciekoaa
open Go.RowKit

def other (b : Nat) : Nat := if 65 ≤ b ∧ b ≤ 90 then b + 32 else if 97 ≤ b ∧ b ≤ 122 then b - 32 else b
theorem other_lt (b : Nat) (h : b < 256) : other b < 256 := by unfold other; (repeat' split) <;> omega
theorem other_other (b : Nat) : other (other b) = b := by
  unfold other
  by_cases h1 : 65 ≤ b ∧ b ≤ 90
  · rw [if_pos h1, if_neg (by omega), if_pos (by omega)]; omega
  · rw [if_neg h1]
    by_cases h2 : 97 ≤ b ∧ b ≤ 122
    · rw [if_pos h2, if_pos (by omega)]; omega
    · rw [if_neg h2, if_neg h1, if_neg h2]

def letW (w : Nat) : Nat := (w ||| w / 4294967296) &&& 134217726
def foldW (w : Nat) : Nat := w ||| (letW w ||| letW w * 4294967296)
def St.fold (s : St) : St := ⟨s.w0, foldW s.w1, s.w2, s.w3⟩
theorem letW_le (w : Nat) : letW w ≤ 134217726 := Nat.and_le_right
theorem fold_u64 (w : Nat) (h : U64 w) : U64 (foldW w) := by
  have h1 := letW_le w
  refine or_u64 h (or_u64 ?_ ?_) <;> unfold U64 <;> omega
theorem St.fold_ok {s : St} (h : s.Ok) : s.fold.Ok := ⟨h.o0, fold_u64 _ h.o1, h.o2, h.o3⟩
theorem mask_bits : ∀ i, i < 64 → (134217726 : Nat).testBit i = decide (1 ≤ i ∧ i ≤ 26) := by decide
theorem mask_bit (i : Nat) : (134217726 : Nat).testBit i = decide (1 ≤ i ∧ i ≤ 26) := by
  by_cases h : i < 64
  · exact mask_bits i h
  · have hp : 134217726 < 2 ^ i := by
      have : (2 : Nat) ^ 64 ≤ 2 ^ i := Nat.pow_le_pow_right (by omega) (by omega)
      exact Nat.lt_of_lt_of_le (by decide) this
    rw [Nat.testBit_lt_two_pow hp]
    symm
    rw [decide_eq_false_iff_not]
    omega
theorem letW_bit (w i : Nat) : (letW w).testBit i = ((w.testBit i || w.testBit (i + 32)) && decide (1 ≤ i ∧ i ≤ 26)) := by
  unfold letW
  rw [Nat.testBit_and, Nat.testBit_or, mask_bit, show (4294967296 : Nat) = 2 ^ 32 from rfl, Nat.testBit_div_two_pow]
theorem foldW_bit (w i : Nat) : (foldW w).testBit i = (w.testBit i || (w.testBit (i + 32) && decide (1 ≤ i ∧ i ≤ 26)) || (w.testBit (i - 32) && decide (33 ≤ i ∧ i ≤ 58))) := by
  unfold foldW
  rw [Nat.testBit_or, Nat.testBit_or, letW_bit, show letW w * 4294967296 = 2 ^ 32 * letW w from by omega, Nat.testBit_two_pow_mul, letW_bit]
  by_cases h : 32 ≤ i
  · rw [show decide (i ≥ 32) = true from by simpa using h, show i - 32 + 32 = i from by omega]
    by_cases h1 : 33 ≤ i ∧ i ≤ 58
    · rw [show decide (1 ≤ i - 32 ∧ i - 32 ≤ 26) = true from by simp; omega, show decide (33 ≤ i ∧ i ≤ 58) = true from by simpa using h1]
      cases w.testBit i <;> cases w.testBit (i - 32) <;> simp
    · rw [show decide (1 ≤ i - 32 ∧ i - 32 ≤ 26) = false from by simp; omega, show decide (33 ≤ i ∧ i ≤ 58) = false from by simpa using h1]
      cases w.testBit i <;> simp
  · rw [show decide (i ≥ 32) = false from by simpa using h, show decide (33 ≤ i ∧ i ≤ 58) = false from by simp; omega]
    cases w.testBit i <;> simp
theorem word_fold (s : St) (i : Nat) : s.fold.word i = if i = 1 then foldW s.w1 else s.word i := by
  unfold St.word St.fold
  by_cases h0 : i = 0
  · subst h0; simp
  · by_cases h1 : i = 1
    · subst h1; simp
    · simp [h0, h1]
theorem has_fold (s : St) (b : Nat) (hb : b < 256) : s.fold.has b = (s.has b || s.has (other b)) := by
  by_cases hq : b / 64 = 1
  · obtain ⟨r, rfl⟩ : ∃ r, b = 64 + r := ⟨b - 64, by omega⟩
    have hr : r < 64 := by omega
    rw [s.has1 r hr, St.has1 _ r hr]
    show (foldW s.w1).testBit r = _
    rw [foldW_bit]
    unfold other
    by_cases h1 : 1 ≤ r ∧ r ≤ 26
    · rw [if_pos (by omega), show 64 + r + 32 = 64 + (r + 32) from by omega, s.has1 (r + 32) (by omega), show decide (1 ≤ r ∧ r ≤ 26) = true from by simpa using h1,
        show decide (33 ≤ r ∧ r ≤ 58) = false from by simp; omega]
      simp
    · rw [if_neg (by omega), show decide (1 ≤ r ∧ r ≤ 26) = false from by simpa using h1]
      by_cases h2 : 33 ≤ r ∧ r ≤ 58
      · rw [if_pos (by omega), show 64 + r - 32 = 64 + (r - 32) from by omega, s.has1 (r - 32) (by omega), show decide (33 ≤ r ∧ r ≤ 58) = true from by simpa using h2]
        simp
      · rw [if_neg (by omega), s.has1 r hr, show decide (33 ≤ r ∧ r ≤ 58) = false from by simpa using h2]
        simp
  · have e1 : s.fold.has b = s.has b := by unfold St.has; rw [word_fold, if_neg hq]
    have e2 : other b = b := by unfold other; rw [if_neg (by omega), if_neg (by omega)]
    rw [e1, e2, Bool.or_self]
theorem fold_fold (s : St) (hs : s.Ok) : s.fold.fold = s.fold := by
  refine St.ext_has (St.fold_ok (St.fold_ok hs)) (St.fold_ok hs) fun x hx => ?_
  rw [has_fold _ x hx, has_fold s x hx, has_fold s (other x) (other_lt x hx), other_other]
  cases s.has x <;> cases s.has (other x) <;> rfl

def letHi (w : Nat) : Nat := letW w * 4294967296
def letBoth (w : Nat) : Nat := letW w ||| letHi w
theorem let_u64 (w : Nat) : U64 (letW w) := by have := letW_le w; unfold U64; omega
theorem letHi_u64 (w : Nat) : U64 (letHi w) := by have := letW_le w; unfold U64 letHi; omega
theorem bits_let (w : Nat) (h : U64 w) : bits .and .u64 (bits .or .u64 (w : Int) ((w : Int) / 4294967296)) 134217726 = ((letW w : Nat) : Int) := by
  rw [show ((w : Int) / 4294967296) = ((w / 4294967296 : Nat) : Int) from by omega, bits_or _ _ h (Nat.lt_of_le_of_lt (Nat.div_le_self _ _) h),
    show (134217726 : Int) = ((134217726 : Nat) : Int) from rfl]
  exact bits_and _ _ (or_u64 h (Nat.lt_of_le_of_lt (Nat.div_le_self _ _) h)) (by unfold U64; omega)
theorem bits_hi (w : Nat) : IntKind.u64.wrap (((letW w : Nat) : Int) * 4294967296) = ((letHi w : Nat) : Int) := by
  have h := letHi_u64 w
  unfold U64 at h
  have e : ((letW w : Nat) : Int) * 4294967296 = ((letHi w : Nat) : Int) := by unfold letHi; omega
  rw [e, IntKind.wrap_u64]
  omega
theorem bits_both (w : Nat) : bits .or .u64 ((letW w : Nat) : Int) ((letHi w : Nat) : Int) = ((letBoth w : Nat) : Int) := bits_or _ _ (let_u64 w) (letHi_u64 w)
theorem bits_fold (w : Nat) (h : U64 w) : bits .or .u64 (w : Int) ((letBoth w : Nat) : Int) = ((foldW w : Nat) : Int) := bits_or _ _ h (or_u64 (let_u64 w) (letHi_u64 w))

set_option maxHeartbeats 1000000 in
theorem setFold (s : St) (hs : s.Ok) (w : World) :
    Calls Try.prog 16 #[.agg #[.int .u64 s.w0, .int .u64 s.w1, .int .u64 s.w2, .int .u64 s.w3]] w fun e w' =>
      e = .returned (.agg #[.int .u64 s.fold.w0, .int .u64 s.fold.w1, .int .u64 s.fold.w2, .int .u64 s.fold.w3]) ∧ Below w.heap.size w w' := by
  have b1 := bits_let s.w1 hs.o1
  have b2 := bits_hi s.w1
  have b3 := bits_both s.w1
  have b4 := bits_fold s.w1 hs.o1
  go_enter Try.func16, Try.ntmps16
  go_wp2
  refine bodyPost_ret (v := .agg #[.int .u64 s.fold.w0, .int .u64 s.fold.w1, .int .u64 s.fold.w2, .int .u64 s.fold.w3]) (by simp [results, Try.results16, go_sem, St.fold]) rfl ⟨rfl, ?_⟩
  repeat (first | exact Below.refl _ _ | refine Below.drew ?_ | refine Below.alloc ?_ (by simp; try omega) _)

theorem ret_i64 {a b : Int} (h : a = b) : Ending.returned (.int .i64 a) = .returned (.int .i64 b) := by rw [h]
set_option maxHeartbeats 1000000 in
theorem refOther (b : Nat) (hb : b < 256) (w : World) :
    Calls Try.prog 17 #[.int .i64 b] w fun e w' => e = .returned (.int .i64 (other b : Nat)) ∧ w = w' := by
  by_cases h1 : 65 ≤ b ∧ b ≤ 90
  · obtain ⟨h1a, h1b⟩ := h1
    have HO := Lib.hid (show other b = b + 32 from by unfold other; rw [if_pos (by omega)])
    go_enter Try.func17, Try.ntmps17
    go_wp2
    go_ret
    exact ⟨ret_i64 (by rw [HO.out]; omega), rfl⟩
  · by_cases h2 : 97 ≤ b ∧ b ≤ 122
    · obtain ⟨h2a, h2b⟩ := h2
      have HO := Lib.hid (show other b = b - 32 from by unfold other; rw [if_neg (by omega), if_pos (by omega)])
      clear h1
      go_enter Try.func17, Try.ntmps17
      go_wp2
      go_ret
      exact ⟨ret_i64 (by rw [HO.out]; omega), rfl⟩
    · have HO := Lib.hid (show other b = b from by unfold other; rw [if_neg (by omega), if_neg (by omega)])
      have H1 := Lib.hid h1
      have H2 := Lib.hid h2
      clear h1 h2
      rcases Nat.lt_or_ge b 65 with h | h
      · go_enter Try.func17, Try.ntmps17
        go_wp2
        go_ret
        exact ⟨ret_i64 (by rw [HO.out]), rfl⟩
      · have := H1.out
        have := H2.out
        have h' : 91 ≤ b := by omega
        rcases Nat.lt_or_ge b 97 with h3 | h3
        · clear h
          go_enter Try.func17, Try.ntmps17
          go_wp2
          go_ret
          exact ⟨ret_i64 (by rw [HO.out]), rfl⟩
        · have h4 : 123 ≤ b := by omega
          clear h
          go_enter Try.func17, Try.ntmps17
          go_wp2
          go_ret
          exact ⟨ret_i64 (by rw [HO.out]), rfl⟩

end Go.Proofs.Ytdcmalfjciekoaa
