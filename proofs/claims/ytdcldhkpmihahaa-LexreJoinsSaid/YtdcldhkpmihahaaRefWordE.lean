/- A part of what the reference's word answers. -/
import Derived.Test.YtdcldhkpmihahaaRefWordH
namespace Go.Proofs.Ytdcldhkpmihahaa
open Go.RowKit
set_option linter.unusedSimpArgs false
set_option linter.unusedVariables false

set_option maxRecDepth 100000 in
set_option maxHeartbeats 8000000 in
theorem refWordE (s : ByteArray) (p : Nat) (hs : s.size ≤ 20000) (hp : p < s.size) (hb40 : bt s p = 40) (h2 : 2 < s.size - p) (h1 : bt s (p + 1) = 63) (w : World) :
    Calls Try.prog 11 #[.string s, .int .i64 p] w fun e w' => e = .returned (.tuple #[.agg (wdCells (wordS s p).1 0), .int .i64 (wordS s p).2]) ∧ Below w.heap.size w w' := by
  have hpl : p ≤ s.size := by omega
  obtain ⟨r, hr⟩ : ∃ r, s.extract p s.size = r := ⟨_, rfl⟩
  have hrs : r.size = s.size - p := by rw [← hr, drop_size]
  have hr0 : 0 < r.size := by omega
  obtain ⟨b, hb⟩ : ∃ b, (r[0]'hr0).toNat = b := ⟨_, rfl⟩
  have hbl : b < 256 := by rw [← hb]; exact UInt8.toNat_lt _
  have HB : Hid (bt s p = b) := Lib.hid (by rw [← hb, bt_is hr0, ← hr, bt_drop s p 0 hpl]; rfl)
  have hb4 : b = 40 := by rw [← HB.out]; exact hb40
  obtain ⟨k, hk0⟩ : ∃ k : Int, k = 2 := ⟨_, rfl⟩
  have HS : Hid (signsS b = k) := Lib.hid (by rw [hk0, hb4]; rfl)
  have hk : 0 < k := by omega
  have e91i : ((b : Int) == 91) = false := beq_eq_false_iff_ne.2 (by omega)
  have e91n : (b == 91) = false := beq_eq_false_iff_ne.2 (by omega)
  have e91j : ((b : Int) != 91) = true := by rw [bne, e91i]; rfl
  have e91m : (b != 91) = true := by rw [bne, e91n]; rfl
  have e123i : ((b : Int) == 123) = false := beq_eq_false_iff_ne.2 (by omega)
  have e123n : (b == 123) = false := beq_eq_false_iff_ne.2 (by omega)
  have e123j : ((b : Int) != 123) = true := by rw [bne, e123i]; rfl
  have e123m : (b != 123) = true := by rw [bne, e123n]; rfl
  have hq : preS s p [40, 63] = true := by rw [pre2, decide_eq_true ⟨⟨by omega, hb40⟩, ⟨by omega, h1⟩⟩]
  have d2b : decide ((2 : Int) < (r.size : Int)) = true := txt_t (by omega)
  have hr2 : 2 ≤ r.size := by omega
  have HQ : Hid (((r.extract 0 2).toList == [40, 63]) = true) := Lib.hid (by rw [two_pre s p r hr hpl hr2]; exact hq)
  have hq1 := HQ.out
  have h2r : 2 < r.size := by omega
  obtain ⟨d2, hd2⟩ : ∃ b, (r[2]'h2r).toNat = b := ⟨_, rfl⟩
  have hdl2 : d2 < 256 := by rw [← hd2]; exact UInt8.toNat_lt _
  have HB2 : bt s (p + 2) = d2 := by rw [← hd2, bt_is h2r, ← hr, bt_drop s p 2 hpl]
  by_cases c60 : d2 = 60
  · have f60i : ((d2 : Int) == 60) = true := by rw [beq_iff_eq]; omega
    have f60n : (d2 == 60) = true := by rw [beq_iff_eq]; omega
    have f60j : ((d2 : Int) != 60) = false := by rw [bne, f60i]; rfl
    have f60m : (d2 != 60) = false := by rw [bne, f60n]; rfl
    by_cases h3 : 3 < r.size
    · have d3b : decide ((3 : Int) < (r.size : Int)) = true := txt_t (by omega)
      obtain ⟨d3, hd3⟩ : ∃ b, (r[3]'h3).toNat = b := ⟨_, rfl⟩
      have hdl3 : d3 < 256 := by rw [← hd3]; exact UInt8.toNat_lt _
      have HB3 : bt s (p + 3) = d3 := by rw [← hd3, bt_is h3, ← hr, bt_drop s p 3 hpl]
      by_cases c61 : d3 = 61
      · have f61i : ((d3 : Int) == 61) = true := by rw [beq_iff_eq]; omega
        have f61n : (d3 == 61) = true := by rw [beq_iff_eq]; omega
        have f61j : ((d3 : Int) != 61) = false := by rw [bne, f61i]; rfl
        have f61m : (d3 != 61) = false := by rw [bne, f61n]; rfl
        have HV : Hid (wordS s p = (kindW 14, 4)) := Lib.hid (by unfold wordS; rw [HB.out, if_pos (by omega), open_is]; rw [if_neg (by omega)]; rw [if_neg (by omega)]; rw [if_pos (by omega)])
        go_enter Try.func11, Try.ntmps11
        go_wp2_with fail
        refine bodyPost_ret (v := .tuple #[.agg (wdCells (kindW 14) 0), .int .i64 4]) (by simp [results, Try.results11, go_sem, wdCells, kindW, emptyC]) rfl ⟨txt_wd HV.out, ?_⟩
        repeat (first | exact Below.refl _ _ | refine Below.drew ?_ | refine Below.alloc ?_ (by simp; try omega) _)
      · have f61i : ((d3 : Int) == 61) = false := beq_eq_false_iff_ne.2 (by omega)
        have f61n : (d3 == 61) = false := beq_eq_false_iff_ne.2 (by omega)
        have f61j : ((d3 : Int) != 61) = true := by rw [bne, f61i]; rfl
        have f61m : (d3 != 61) = true := by rw [bne, f61n]; rfl
        by_cases c33 : d3 = 33
        · have f33i : ((d3 : Int) == 33) = true := by rw [beq_iff_eq]; omega
          have f33n : (d3 == 33) = true := by rw [beq_iff_eq]; omega
          have f33j : ((d3 : Int) != 33) = false := by rw [bne, f33i]; rfl
          have f33m : (d3 != 33) = false := by rw [bne, f33n]; rfl
          have HV : Hid (wordS s p = (kindW 15, 4)) := Lib.hid (by unfold wordS; rw [HB.out, if_pos (by omega), open_is]; rw [if_neg (by omega)]; rw [if_neg (by omega)]; rw [if_neg (by omega)]; rw [if_pos (by omega)])
          go_enter Try.func11, Try.ntmps11
          go_wp2_with fail
          refine bodyPost_ret (v := .tuple #[.agg (wdCells (kindW 15) 0), .int .i64 4]) (by simp [results, Try.results11, go_sem, wdCells, kindW, emptyC]) rfl ⟨txt_wd HV.out, ?_⟩
          repeat (first | exact Below.refl _ _ | refine Below.drew ?_ | refine Below.alloc ?_ (by simp; try omega) _)
        · have f33i : ((d3 : Int) == 33) = false := beq_eq_false_iff_ne.2 (by omega)
          have f33n : (d3 == 33) = false := beq_eq_false_iff_ne.2 (by omega)
          have f33j : ((d3 : Int) != 33) = true := by rw [bne, f33i]; rfl
          have f33m : (d3 != 33) = true := by rw [bne, f33n]; rfl
          have HO : Hid (openS s p = (kindW k, 1)) := Lib.hid (by rw [open_is, hk0]; rw [if_neg (by omega)]; rw [if_neg (by omega)]; rw [if_neg (by omega)]; rw [if_neg (by omega)])
          clear hk0 hrs HB2 HB3
          have dk : decide (0 < k) = true := txt_t hk
          have HV : Hid (wordS s p = (kindW k, 1)) := Lib.hid (by unfold wordS; rw [HB.out, if_pos (by omega), HO.out])
          clear hb4 hb40
          go_enter Try.func11, Try.ntmps11
          go_wp2_with fail
          refine (refSignsV b hbl k HS.out _).mono ?_
          rintro e w1 ⟨rfl, rfl⟩
          go_wp2_with fail
          refine (refSignsV b hbl k HS.out _).mono ?_
          rintro e w1 ⟨rfl, rfl⟩
          go_wp2_with fail
          refine bodyPost_ret (v := .tuple #[.agg (wdCells (kindW k) 0), .int .i64 1]) (by simp [results, Try.results11, go_sem, wdCells, kindW, emptyC]) rfl ⟨txt_wd HV.out, ?_⟩
          repeat (first | exact Below.refl _ _ | refine Below.drew ?_ | refine Below.alloc ?_ (by simp; try omega) _)
    · have d3b : decide ((3 : Int) < (r.size : Int)) = false := txt_f (by omega)
      have HO : Hid (openS s p = (kindW k, 1)) := Lib.hid (by rw [open_is, hk0]; rw [if_neg (by omega)]; rw [if_neg (by omega)]; rw [if_neg (by omega)]; rw [if_neg (by omega)])
      clear hk0 hrs HB2
      have dk : decide (0 < k) = true := txt_t hk
      have HV : Hid (wordS s p = (kindW k, 1)) := Lib.hid (by unfold wordS; rw [HB.out, if_pos (by omega), HO.out])
      clear hb4 hb40
      go_enter Try.func11, Try.ntmps11
      go_wp2_with fail
      refine (refSignsV b hbl k HS.out _).mono ?_
      rintro e w1 ⟨rfl, rfl⟩
      go_wp2_with fail
      refine (refSignsV b hbl k HS.out _).mono ?_
      rintro e w1 ⟨rfl, rfl⟩
      go_wp2_with fail
      refine bodyPost_ret (v := .tuple #[.agg (wdCells (kindW k) 0), .int .i64 1]) (by simp [results, Try.results11, go_sem, wdCells, kindW, emptyC]) rfl ⟨txt_wd HV.out, ?_⟩
      repeat (first | exact Below.refl _ _ | refine Below.drew ?_ | refine Below.alloc ?_ (by simp; try omega) _)
  · have f60i : ((d2 : Int) == 60) = false := beq_eq_false_iff_ne.2 (by omega)
    have f60n : (d2 == 60) = false := beq_eq_false_iff_ne.2 (by omega)
    have f60j : ((d2 : Int) != 60) = true := by rw [bne, f60i]; rfl
    have f60m : (d2 != 60) = true := by rw [bne, f60n]; rfl
    by_cases c61 : d2 = 61
    · have f61i : ((d2 : Int) == 61) = true := by rw [beq_iff_eq]; omega
      have f61n : (d2 == 61) = true := by rw [beq_iff_eq]; omega
      have f61j : ((d2 : Int) != 61) = false := by rw [bne, f61i]; rfl
      have f61m : (d2 != 61) = false := by rw [bne, f61n]; rfl
      have HV : Hid (wordS s p = (kindW 12, 3)) := Lib.hid (by unfold wordS; rw [HB.out, if_pos (by omega), open_is]; rw [if_pos (by omega)])
      go_enter Try.func11, Try.ntmps11
      go_wp2_with fail
      refine bodyPost_ret (v := .tuple #[.agg (wdCells (kindW 12) 0), .int .i64 3]) (by simp [results, Try.results11, go_sem, wdCells, kindW, emptyC]) rfl ⟨txt_wd HV.out, ?_⟩
      repeat (first | exact Below.refl _ _ | refine Below.drew ?_ | refine Below.alloc ?_ (by simp; try omega) _)
    · have f61i : ((d2 : Int) == 61) = false := beq_eq_false_iff_ne.2 (by omega)
      have f61n : (d2 == 61) = false := beq_eq_false_iff_ne.2 (by omega)
      have f61j : ((d2 : Int) != 61) = true := by rw [bne, f61i]; rfl
      have f61m : (d2 != 61) = true := by rw [bne, f61n]; rfl
      by_cases c33 : d2 = 33
      · have f33i : ((d2 : Int) == 33) = true := by rw [beq_iff_eq]; omega
        have f33n : (d2 == 33) = true := by rw [beq_iff_eq]; omega
        have f33j : ((d2 : Int) != 33) = false := by rw [bne, f33i]; rfl
        have f33m : (d2 != 33) = false := by rw [bne, f33n]; rfl
        have HV : Hid (wordS s p = (kindW 13, 3)) := Lib.hid (by unfold wordS; rw [HB.out, if_pos (by omega), open_is]; rw [if_neg (by omega)]; rw [if_pos (by omega)])
        go_enter Try.func11, Try.ntmps11
        go_wp2_with fail
        refine bodyPost_ret (v := .tuple #[.agg (wdCells (kindW 13) 0), .int .i64 3]) (by simp [results, Try.results11, go_sem, wdCells, kindW, emptyC]) rfl ⟨txt_wd HV.out, ?_⟩
        repeat (first | exact Below.refl _ _ | refine Below.drew ?_ | refine Below.alloc ?_ (by simp; try omega) _)
      · have f33i : ((d2 : Int) == 33) = false := beq_eq_false_iff_ne.2 (by omega)
        have f33n : (d2 == 33) = false := beq_eq_false_iff_ne.2 (by omega)
        have f33j : ((d2 : Int) != 33) = true := by rw [bne, f33i]; rfl
        have f33m : (d2 != 33) = true := by rw [bne, f33n]; rfl
        have HO : Hid (openS s p = (kindW k, 1)) := Lib.hid (by rw [open_is, hk0]; rw [if_neg (by omega)]; rw [if_neg (by omega)]; rw [if_neg (by omega)]; rw [if_neg (by omega)])
        clear hk0 hrs HB2
        have dk : decide (0 < k) = true := txt_t hk
        have HV : Hid (wordS s p = (kindW k, 1)) := Lib.hid (by unfold wordS; rw [HB.out, if_pos (by omega), HO.out])
        clear hb4 hb40
        go_enter Try.func11, Try.ntmps11
        go_wp2_with fail
        refine (refSignsV b hbl k HS.out _).mono ?_
        rintro e w1 ⟨rfl, rfl⟩
        go_wp2_with fail
        refine (refSignsV b hbl k HS.out _).mono ?_
        rintro e w1 ⟨rfl, rfl⟩
        go_wp2_with fail
        refine bodyPost_ret (v := .tuple #[.agg (wdCells (kindW k) 0), .int .i64 1]) (by simp [results, Try.results11, go_sem, wdCells, kindW, emptyC]) rfl ⟨txt_wd HV.out, ?_⟩
        repeat (first | exact Below.refl _ _ | refine Below.drew ?_ | refine Below.alloc ?_ (by simp; try omega) _)
end Go.Proofs.Ytdcldhkpmihahaa
