/- What the reference's word answers. -/
import Derived.Test.YtdcldhkpmihahaaWordSpec
namespace Go.Proofs.Ytdcldhkpmihahaa
open Go.RowKit
set_option linter.unusedSimpArgs false
set_option linter.unusedVariables false

theorem refClassV (s : ByteArray) (p : Nat) (hs : s.size ≤ 20000) (hp : p < s.size) (c : St) (n : Int) (h : classS s p = (c, n)) (w : World) :
    Calls Try.prog 20 #[.string s, .int .i64 p] w fun e w' => e = .returned (.tuple #[.agg #[.int .u64 c.w0, .int .u64 c.w1, .int .u64 c.w2, .int .u64 c.w3], .int .i64 n]) ∧ Below w.heap.size w w' := by
  have := refClass s p hs hp w
  rw [h] at this
  exact this
theorem refBracesV (s : ByteArray) (p : Nat) (hs : s.size ≤ 20000) (hp : p < s.size) (x : Wd) (n : Int) (h : bracesS s p = (x, n)) (w : World) :
    Calls Try.prog 21 #[.string s, .int .i64 p] w fun e w' => e = .returned (.tuple #[.agg #[.int .i64 x.kind, .int .i64 0, .int .u64 x.set.w0, .int .u64 x.set.w1, .int .u64 x.set.w2, .int .u64 x.set.w3, .string x.name, .int .i64 x.lo, .int .i64 x.hi], .int .i64 n]) ∧ Below w.heap.size w w' := by
  have := refBraces s p hs hp w
  rw [h] at this
  exact this
theorem refSignsV (c : Nat) (hc : c < 256) (k : Int) (h : signsS c = k) (w : World) : Calls Try.prog 22 #[.int .u8 c] w fun e w' => e = .returned (.int .i64 k) ∧ w = w' := by
  rw [← h]; exact refSigns c (by omega) (by omega) w
theorem refPut0 (b : Nat) (hb : b < 256) (w : World) :
    Calls Try.prog 23 #[.agg #[.int .u64 0, .int .u64 0, .int .u64 0, .int .u64 0], .int .i64 b] w fun e w' => e = .returned (.agg #[.int .u64 (St.zero.put b).w0, .int .u64 (St.zero.put b).w1, .int .u64 (St.zero.put b).w2, .int .u64 (St.zero.put b).w3]) ∧ Below w.heap.size w w' := refPut St.zero St.zero_ok b hb w
theorem dot_ok : ∀ k, (dotTo k).Ok
  | 0 => emptyC_ok
  | k + 1 => by
    unfold dotTo
    split
    · exact dot_ok k
    · exact St.put_ok (dot_ok k) k
theorem two_pre (s : ByteArray) (p : Nat) (r : ByteArray) (hr : s.extract p s.size = r) (hp : p ≤ s.size) (h2 : 2 ≤ r.size) : ((r.extract 0 2).toList == [40, 63]) = preS s p [40, 63] := by
  have := Lib.hasPrefix_raw r { data := #[40, 63] }
  have h3 := pre_is r [40, 63] 0
  rw [List.drop_zero] at h3
  rw [show (ByteArray.mk #[40, 63]).data.toList = [40, 63] from rfl, h3, ← hr, pre_drop s p hp, show (ByteArray.mk #[40, 63]).size = 2 from rfl, show (ByteArray.mk #[40, 63]).toList = [40, 63] from by rw [Lib.toList_data], decide_eq_true (by rw [hr]; exact h2)] at this
  rw [← hr]
  simpa using this

theorem pre2 (s : ByteArray) (p : Nat) (a b : UInt8) : preS s p [a, b] = decide ((p < s.size ∧ bt s p = a.toNat) ∧ (p + 1 < s.size ∧ bt s (p + 1) = b.toNat)) := by
  unfold preS; rw [pre_one, ← Bool.decide_and]
theorem pre3 (s : ByteArray) (p : Nat) (a b c : UInt8) : preS s p [a, b, c] = decide ((p < s.size ∧ bt s p = a.toNat) ∧ (p + 1 < s.size ∧ bt s (p + 1) = b.toNat) ∧ (p + 2 < s.size ∧ bt s (p + 2) = c.toNat)) := by
  unfold preS; rw [pre2, ← Bool.decide_and]
theorem pre4 (s : ByteArray) (p : Nat) (a b c d : UInt8) : preS s p [a, b, c, d] = decide ((p < s.size ∧ bt s p = a.toNat) ∧ (p + 1 < s.size ∧ bt s (p + 1) = b.toNat) ∧ (p + 2 < s.size ∧ bt s (p + 2) = c.toNat) ∧ (p + 3 < s.size ∧ bt s (p + 3) = d.toNat)) := by
  unfold preS; rw [pre3, ← Bool.decide_and]
theorem open_is (s : ByteArray) (p : Nat) : openS s p =
    if (p < s.size ∧ bt s p = 40) ∧ (p + 1 < s.size ∧ bt s (p + 1) = 63) ∧ (p + 2 < s.size ∧ bt s (p + 2) = 61) then (kindW 12, 3)
    else if (p < s.size ∧ bt s p = 40) ∧ (p + 1 < s.size ∧ bt s (p + 1) = 63) ∧ (p + 2 < s.size ∧ bt s (p + 2) = 33) then (kindW 13, 3)
    else if (p < s.size ∧ bt s p = 40) ∧ (p + 1 < s.size ∧ bt s (p + 1) = 63) ∧ (p + 2 < s.size ∧ bt s (p + 2) = 60) ∧ (p + 3 < s.size ∧ bt s (p + 3) = 61) then (kindW 14, 4)
    else if (p < s.size ∧ bt s p = 40) ∧ (p + 1 < s.size ∧ bt s (p + 1) = 63) ∧ (p + 2 < s.size ∧ bt s (p + 2) = 60) ∧ (p + 3 < s.size ∧ bt s (p + 3) = 33) then (kindW 15, 4)
    else (kindW 2, 1) := by
  unfold openS
  rw [pre3, pre3, pre4, pre4]
  simp only [decide_eq_true_eq]
  rfl
end Go.Proofs.Ytdcldhkpmihahaa
