/- A part of what the reference's word answers. -/
import Derived.Test.YtdcldhkpmihahaaRefWordH
namespace Go.Proofs.Ytdcldhkpmihahaa
open Go.RowKit
set_option linter.unusedSimpArgs false
set_option linter.unusedVariables false

set_option maxRecDepth 100000 in
set_option maxHeartbeats 8000000 in
theorem refWordD (s : ByteArray) (p : Nat) (hs : s.size ≤ 20000) (hp : p < s.size) (hb40 : bt s p = 40) (h2 : 2 < s.size - p) (h1 : ¬ bt s (p + 1) = 63) (w : World) :
    Calls Try.prog 11 #[.string s, .int .i64 p] w fun e w' => e = .returned (.tuple #[.agg (wdCells (wordS s p).1 0), .int .i64 (wordS s p).2]) ∧ Below w.heap.size w w' := by
  have hpl : p ≤ s.size := by omega
  obtain ⟨r, hr⟩ : ∃ r, s.extract p s.size = r := ⟨_, rfl⟩
  have hrs : r.size = s.size - p := by rw [← hr, drop_size]
  have hr0 : 0 < r.size := by omega
  obtain ⟨b, hb⟩ : ∃ b, (r[0]'hr0).toNat = b := ⟨_, rfl⟩
  have hbl : b < 256 := by rw [← hb]; exact UInt8.toNat_lt _
  have HB : Hid (bt s p = b) := Lib.hid (by rw [← hb, bt_is hr0, ← hr, bt_drop s p 0 hpl]; rfl)
  have hb4 : b = 40 := by rw [← HB.out]; exact hb40
  obtain ⟨k, hk0⟩ : ∃ k : Int, k = 2 := ⟨_, rfl⟩
  have HS : Hid (signsS b = k) := Lib.hid (by rw [hk0, hb4]; rfl)
  have hk : 0 < k := by omega
  have e91i : ((b : Int) == 91) = false := beq_eq_false_iff_ne.2 (by omega)
  have e91n : (b == 91) = false := beq_eq_false_iff_ne.2 (by omega)
  have e91j : ((b : Int) != 91) = true := by rw [bne, e91i]; rfl
  have e91m : (b != 91) = true := by rw [bne, e91n]; rfl
  have e123i : ((b : Int) == 123) = false := beq_eq_false_iff_ne.2 (by omega)
  have e123n : (b == 123) = false := beq_eq_false_iff_ne.2 (by omega)
  have e123j : ((b : Int) != 123) = true := by rw [bne, e123i]; rfl
  have e123m : (b != 123) = true := by rw [bne, e123n]; rfl
  have HO : Hid (openS s p = (kindW k, 1)) := Lib.hid (by rw [open_is, hk0]; rw [if_neg (by omega)]; rw [if_neg (by omega)]; rw [if_neg (by omega)]; rw [if_neg (by omega)])
  clear hk0
  have hq : preS s p [40, 63] = false := by rw [pre2, decide_eq_false (by intro x; exact h1 x.2.2)]
  have d2 : decide ((2 : Int) < (r.size : Int)) = true := txt_t (by omega)
  have hr2 : 2 ≤ r.size := by omega
  have HQ : Hid (((r.extract 0 2).toList == [40, 63]) = false) := Lib.hid (by rw [two_pre s p r hr hpl hr2]; exact hq)
  have hq1 := HQ.out
  clear hrs
  have dk : decide (0 < k) = true := txt_t hk
  have HV : Hid (wordS s p = (kindW k, 1)) := Lib.hid (by unfold wordS; rw [HB.out, if_pos (by omega), HO.out])
  clear hb4 hb40
  go_enter Try.func11, Try.ntmps11
  go_wp2_with fail
  refine (refSignsV b hbl k HS.out _).mono ?_
  rintro e w1 ⟨rfl, rfl⟩
  go_wp2_with fail
  refine (refSignsV b hbl k HS.out _).mono ?_
  rintro e w1 ⟨rfl, rfl⟩
  go_wp2_with fail
  refine bodyPost_ret (v := .tuple #[.agg (wdCells (kindW k) 0), .int .i64 1]) (by simp [results, Try.results11, go_sem, wdCells, kindW, emptyC]) rfl ⟨txt_wd HV.out, ?_⟩
  repeat (first | exact Below.refl _ _ | refine Below.drew ?_ | refine Below.alloc ?_ (by simp; try omega) _)
end Go.Proofs.Ytdcldhkpmihahaa
