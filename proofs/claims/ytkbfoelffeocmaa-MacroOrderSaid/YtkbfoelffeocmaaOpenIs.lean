/- What openS comes to, byte by byte. -/
import Derived.Test.YtkbfoelffeocmaaMc
namespace Go.Proofs.Ytkbfoelffeocmaa
open Go.RowKit
theorem pre2 (s : ByteArray) (p : Nat) (a b : UInt8) : preS s p [a, b] = decide ((p < s.size ∧ bt s p = a.toNat) ∧ (p + 1 < s.size ∧ bt s (p + 1) = b.toNat)) := by
  unfold preS; rw [pre_one, ← Bool.decide_and]
theorem pre3 (s : ByteArray) (p : Nat) (a b c : UInt8) : preS s p [a, b, c] = decide ((p < s.size ∧ bt s p = a.toNat) ∧ (p + 1 < s.size ∧ bt s (p + 1) = b.toNat) ∧ (p + 2 < s.size ∧ bt s (p + 2) = c.toNat)) := by
  unfold preS; rw [pre2, ← Bool.decide_and]
theorem pre4 (s : ByteArray) (p : Nat) (a b c d : UInt8) : preS s p [a, b, c, d] = decide ((p < s.size ∧ bt s p = a.toNat) ∧ (p + 1 < s.size ∧ bt s (p + 1) = b.toNat) ∧ (p + 2 < s.size ∧ bt s (p + 2) = c.toNat) ∧ (p + 3 < s.size ∧ bt s (p + 3) = d.toNat)) := by
  unfold preS; rw [pre3, ← Bool.decide_and]
theorem open_is (s : ByteArray) (p : Nat) : openS s p =
    if (p < s.size ∧ bt s p = 40) ∧ (p + 1 < s.size ∧ bt s (p + 1) = 63) ∧ (p + 2 < s.size ∧ bt s (p + 2) = 61) then (kindW 12, 3)
    else if (p < s.size ∧ bt s p = 40) ∧ (p + 1 < s.size ∧ bt s (p + 1) = 63) ∧ (p + 2 < s.size ∧ bt s (p + 2) = 33) then (kindW 13, 3)
    else if (p < s.size ∧ bt s p = 40) ∧ (p + 1 < s.size ∧ bt s (p + 1) = 63) ∧ (p + 2 < s.size ∧ bt s (p + 2) = 60) ∧ (p + 3 < s.size ∧ bt s (p + 3) = 61) then (kindW 14, 4)
    else if (p < s.size ∧ bt s p = 40) ∧ (p + 1 < s.size ∧ bt s (p + 1) = 63) ∧ (p + 2 < s.size ∧ bt s (p + 2) = 60) ∧ (p + 3 < s.size ∧ bt s (p + 3) = 33) then (kindW 15, 4)
    else (kindW 2, 1) := by
  unfold openS
  rw [pre3, pre3, pre4, pre4]
  simp only [decide_eq_true_eq]
  rfl

end Go.Proofs.Ytkbfoelffeocmaa
