/- Joined: RefWordH, RefWordA, RefWordB, RefWordC, RefWordD, RefWordE, RefWord. -/
import Derived.Test.YtkbfoelffeocmaaGreatOpenIs
/- What the reference's word answers. -/
namespace Go.Proofs.YtkbfoelffeocmaaGreat
open Go.RowKit
set_option linter.unusedSimpArgs false
set_option linter.unusedVariables false

theorem refClassV (s : ByteArray) (p : Nat) (hs : s.size ≤ 20000) (hp : p < s.size) (c : St) (n : Int) (h : classS s p = (c, n)) (w : World) :
    Calls Tryz.prog 43 #[.string s, .int .i64 p] w fun e w' => e = .returned (.tuple #[.agg #[.int .u64 c.w0, .int .u64 c.w1, .int .u64 c.w2, .int .u64 c.w3], .int .i64 n]) ∧ Below w.heap.size w w' := by
  have := refClass s p hs hp w
  rw [h] at this
  exact this
theorem refBracesV (s : ByteArray) (p : Nat) (hs : s.size ≤ 20000) (hp : p < s.size) (x : Wd) (n : Int) (h : bracesS s p = (x, n)) (w : World) :
    Calls Tryz.prog 44 #[.string s, .int .i64 p] w fun e w' => e = .returned (.tuple #[.agg #[.int .i64 x.kind, .int .i64 0, .int .u64 x.set.w0, .int .u64 x.set.w1, .int .u64 x.set.w2, .int .u64 x.set.w3, .string x.name, .int .i64 x.lo, .int .i64 x.hi], .int .i64 n]) ∧ Below w.heap.size w w' := by
  have := refBraces s p hs hp w
  rw [h] at this
  exact this
theorem refSignsV (c : Nat) (hc : c < 256) (k : Int) (h : signsS c = k) (w : World) : Calls Tryz.prog 45 #[.int .u8 c] w fun e w' => e = .returned (.int .i64 k) ∧ w = w' := by
  rw [← h]; exact refSigns c (by omega) (by omega) w
theorem refPut0 (b : Nat) (hb : b < 256) (w : World) :
    Calls Tryz.prog 46 #[.agg #[.int .u64 0, .int .u64 0, .int .u64 0, .int .u64 0], .int .i64 b] w fun e w' => e = .returned (.agg #[.int .u64 (St.zero.put b).w0, .int .u64 (St.zero.put b).w1, .int .u64 (St.zero.put b).w2, .int .u64 (St.zero.put b).w3]) ∧ Below w.heap.size w w' := refPut St.zero St.zero_ok b hb w
theorem dot_ok : ∀ k, (dotTo k).Ok
  | 0 => emptyC_ok
  | k + 1 => by
    unfold dotTo
    split
    · exact dot_ok k
    · exact St.put_ok (dot_ok k) k
theorem two_pre (s : ByteArray) (p : Nat) (r : ByteArray) (hr : s.extract p s.size = r) (hp : p ≤ s.size) (h2 : 2 ≤ r.size) : ((r.extract 0 2).toList == [40, 63]) = preS s p [40, 63] := by
  have := Lib.hasPrefix_raw r { data := #[40, 63] }
  have h3 := pre_is r [40, 63] 0
  rw [List.drop_zero] at h3
  rw [show (ByteArray.mk #[40, 63]).data.toList = [40, 63] from rfl, h3, ← hr, pre_drop s p hp, show (ByteArray.mk #[40, 63]).size = 2 from rfl, show (ByteArray.mk #[40, 63]).toList = [40, 63] from by rw [Lib.toList_data], decide_eq_true (by rw [hr]; exact h2)] at this
  rw [← hr]
  simpa using this

end Go.Proofs.YtkbfoelffeocmaaGreat

/- A part of what the reference's word answers. -/
namespace Go.Proofs.YtkbfoelffeocmaaGreat
open Go.RowKit
set_option linter.unusedSimpArgs false
set_option linter.unusedVariables false

set_option maxRecDepth 100000 in
set_option maxHeartbeats 8000000 in
theorem refWordA (s : ByteArray) (p : Nat) (hs : s.size ≤ 20000) (hp : p < s.size) (hb40 : ¬ bt s p = 40) (h2 : ¬ 2 < s.size - p) (w : World) :
    Calls Tryz.prog 28 #[.string s, .int .i64 p] w fun e w' => e = .returned (.tuple #[.agg (wdCells (wordS s p).1 0), .int .i64 (wordS s p).2]) ∧ Below w.heap.size w w' := by
  have hpl : p ≤ s.size := by omega
  obtain ⟨r, hr⟩ : ∃ r, s.extract p s.size = r := ⟨_, rfl⟩
  have hrs : r.size = s.size - p := by rw [← hr, drop_size]
  have hr0 : 0 < r.size := by omega
  obtain ⟨b, hb⟩ : ∃ b, (r[0]'hr0).toNat = b := ⟨_, rfl⟩
  have hbl : b < 256 := by rw [← hb]; exact UInt8.toNat_lt _
  have HB : Hid (bt s p = b) := Lib.hid (by rw [← hb, bt_is hr0, ← hr, bt_drop s p 0 hpl]; rfl)
  have hb4 : ¬ b = 40 := by rw [← HB.out]; exact hb40
  have d2 : decide ((2 : Int) < (r.size : Int)) = false := txt_f (by omega)
  clear hrs
  by_cases b91 : b = 91
  · have e91i : ((b : Int) == 91) = true := by rw [beq_iff_eq]; omega
    have e91n : (b == 91) = true := by rw [beq_iff_eq]; omega
    have e91j : ((b : Int) != 91) = false := by rw [bne, e91i]; rfl
    have e91m : (b != 91) = false := by rw [bne, e91n]; rfl
    obtain ⟨c, n, hcn⟩ : ∃ (c : St) (n : Int), classS s p = (c, n) := ⟨_, _, rfl⟩
    have HK := Lib.hid hcn
    have HV : Hid (wordS s p = (setW c, n)) := Lib.hid (by unfold wordS; rw [HB.out, if_neg (by omega), if_pos (by omega), HK.out])
    clear hcn
    clear b91
    go_enter Tryz.func28, Tryz.ntmps28
    go_wp2_with fail
    refine (refClassV s p hs hp c n HK.out _).mono ?_
    rintro e w1 ⟨rfl, hb1⟩
    have HZ1 := Lib.hid ((WdAt.zero w).next hb1)
    have hB1 : Below w.heap.size w w1 := (zw_below w).trans (hb1.mono (zw_below w).size)
    have hz0 : w.heap.size < w1.heap.size := At.lt HZ1.out
    obtain ⟨z0, z1, z2, z3, z4, z5, z6, z7, z8⟩ := HZ1.out.cells
    obtain ⟨y0, y1, y2, y3, y4, y5, y6, y7, y8⟩ := HZ1.out.frees
    have yo0 := fun o => (WdAt.frees (HZ1.out.alloc o)).1
    have yo1 := fun o => (WdAt.frees (HZ1.out.alloc o)).2.1
    have yo2 := fun o => (WdAt.frees (HZ1.out.alloc o)).2.2.1
    have yo3 := fun o => (WdAt.frees (HZ1.out.alloc o)).2.2.2.1
    have yo4 := fun o => (WdAt.frees (HZ1.out.alloc o)).2.2.2.2.1
    have yo5 := fun o => (WdAt.frees (HZ1.out.alloc o)).2.2.2.2.2.1
    have yo6 := fun o => (WdAt.frees (HZ1.out.alloc o)).2.2.2.2.2.2.1
    have yo7 := fun o => (WdAt.frees (HZ1.out.alloc o)).2.2.2.2.2.2.2.1
    have yo8 := fun o => (WdAt.frees (HZ1.out.alloc o)).2.2.2.2.2.2.2.2
    have zo0 := fun o => (WdAt.cells (HZ1.out.alloc o)).1
    have zo1 := fun o => (WdAt.cells (HZ1.out.alloc o)).2.1
    have zo2 := fun o => (WdAt.cells (HZ1.out.alloc o)).2.2.1
    have zo3 := fun o => (WdAt.cells (HZ1.out.alloc o)).2.2.2.1
    have zo4 := fun o => (WdAt.cells (HZ1.out.alloc o)).2.2.2.2.1
    have zo5 := fun o => (WdAt.cells (HZ1.out.alloc o)).2.2.2.2.2.1
    have zo6 := fun o => (WdAt.cells (HZ1.out.alloc o)).2.2.2.2.2.2.1
    have zo7 := fun o => (WdAt.cells (HZ1.out.alloc o)).2.2.2.2.2.2.2.1
    have zo8 := fun o => (WdAt.cells (HZ1.out.alloc o)).2.2.2.2.2.2.2.2
    clear hb1
    go_wp2_with fail
    exact bodyPost_ret (results_row_tmp Tryz.results28 _ _ w.heap.size 59 _ (0, 0) _ rfl ((HZ1.out.store (setW c) 0).alloc (.cells #[.int .u64 c.w0, .int .u64 c.w1, .int .u64 c.w2, .int .u64 c.w3] 33)) Tryz.underlying59 rfl (by kernel_rfl)) rfl ⟨by rw [HV.out]; rfl, (below_stW hB1 (Nat.le_refl _) (setW c) 0).alloc (below_stW hB1 (Nat.le_refl _) (setW c) 0).size (.cells #[.int .u64 c.w0, .int .u64 c.w1, .int .u64 c.w2, .int .u64 c.w3] 33)⟩
  · have e91i : ((b : Int) == 91) = false := beq_eq_false_iff_ne.2 (by omega)
    have e91n : (b == 91) = false := beq_eq_false_iff_ne.2 (by omega)
    have e91j : ((b : Int) != 91) = true := by rw [bne, e91i]; rfl
    have e91m : (b != 91) = true := by rw [bne, e91n]; rfl
    by_cases b123 : b = 123
    · have e123i : ((b : Int) == 123) = true := by rw [beq_iff_eq]; omega
      have e123n : (b == 123) = true := by rw [beq_iff_eq]; omega
      have e123j : ((b : Int) != 123) = false := by rw [bne, e123i]; rfl
      have e123m : (b != 123) = false := by rw [bne, e123n]; rfl
      obtain ⟨x, n, hcn⟩ : ∃ (x : Wd) (n : Int), bracesS s p = (x, n) := ⟨_, _, rfl⟩
      have HK := Lib.hid hcn
      have HV : Hid (wordS s p = (x, n)) := Lib.hid (by unfold wordS; rw [HB.out, if_neg (by omega), if_neg (by omega), if_pos (by omega), HK.out])
      clear hcn
      clear b123
      go_enter Tryz.func28, Tryz.ntmps28
      go_wp2_with fail
      refine (refBracesV s p hs hp x n HK.out _).mono ?_
      rintro e w1 ⟨rfl, hb1⟩
      have HZ1 := Lib.hid ((WdAt.zero w).next hb1)
      have hB1 : Below w.heap.size w w1 := (zw_below w).trans (hb1.mono (zw_below w).size)
      obtain ⟨z0, z1, z2, z3, z4, z5, z6, z7, z8⟩ := HZ1.out.cells
      obtain ⟨y0, y1, y2, y3, y4, y5, y6, y7, y8⟩ := HZ1.out.frees
      clear hb1
      go_wp2_with fail
      exact bodyPost_ret (results_row_tmp Tryz.results28 _ _ w.heap.size 59 _ (0, 0) _ rfl (HZ1.out.store x 0) Tryz.underlying59 rfl (by kernel_rfl)) rfl ⟨by rw [HV.out]; rfl, below_stW hB1 (Nat.le_refl _) x 0⟩
    · have e123i : ((b : Int) == 123) = false := beq_eq_false_iff_ne.2 (by omega)
      have e123n : (b == 123) = false := beq_eq_false_iff_ne.2 (by omega)
      have e123j : ((b : Int) != 123) = true := by rw [bne, e123i]; rfl
      have e123m : (b != 123) = true := by rw [bne, e123n]; rfl
      obtain ⟨k, hk0⟩ : ∃ k, signsS b = k := ⟨_, rfl⟩
      have HS := Lib.hid hk0
      clear hk0
      by_cases hk : 0 < k
      · have dk : decide (0 < k) = true := txt_t hk
        have HV : Hid (wordS s p = (kindW k, 1)) := Lib.hid (by unfold wordS; rw [HB.out, if_neg (by omega), if_neg (by omega), if_neg (by omega), HS.out, if_pos hk])
        go_enter Tryz.func28, Tryz.ntmps28
        go_wp2_with fail
        refine (refSignsV b hbl k HS.out _).mono ?_
        rintro e w1 ⟨rfl, rfl⟩
        go_wp2_with fail
        refine (refSignsV b hbl k HS.out _).mono ?_
        rintro e w1 ⟨rfl, rfl⟩
        go_wp2_with fail
        refine bodyPost_ret (v := .tuple #[.agg (wdCells (kindW k) 0), .int .i64 1]) (by simp [results, Tryz.results28, go_sem, wdCells, kindW, emptyC]) rfl ⟨txt_wd HV.out, ?_⟩
        repeat (first | exact Below.refl _ _ | refine Below.drew ?_ | refine Below.alloc ?_ (by simp; try omega) _)
      · by_cases b46 : b = 46
        · have e46i : ((b : Int) == 46) = true := by rw [beq_iff_eq]; omega
          have e46n : (b == 46) = true := by rw [beq_iff_eq]; omega
          have e46j : ((b : Int) != 46) = false := by rw [bne, e46i]; rfl
          have e46m : (b != 46) = false := by rw [bne, e46n]; rfl
          have dk : decide (0 < k) = false := txt_f (by omega)
          have HV : Hid (wordS s p = (setW (dotTo 256), 1)) := Lib.hid (by unfold wordS; rw [HB.out, if_neg (by omega), if_neg (by omega), if_neg (by omega), HS.out, if_neg (by omega), if_pos (by omega)])
          clear b46
          go_enter Tryz.func28, Tryz.ntmps28
          go_wp2_with fail
          refine (refSignsV b hbl k HS.out _).mono ?_
          rintro e w1 ⟨rfl, rfl⟩
          go_wp2_with fail
          go_loopw [87] (fun x wr => ∃ q : Nat, q ≤ 256 ∧ x = .int .i64 q ∧ SetAt wr (w.heap.size + 1) 33 (dotTo q) ∧ WdAt wr w.heap.size wd0 0 ∧ Below w.heap.size w wr) (fun x _ => 256 - (intOf x).toNat)
          case atStart =>
            refine ⟨0, by omega, rfl, ?_, (WdAt.zero w).alloc _, (zw_below w).alloc (zw_below w).size _⟩
            have h := SetAt.new (zw w) 33 emptyC
            rw [zw_size] at h
            exact h
          case round =>
            obtain ⟨q, hq, rfl, hs1, hz1, hb1⟩ := hrel
            by_cases hq6 : q < 256
            · by_cases hq10 : q = 10
              · have HS2 : Hid (dotTo (q + 1) = dotTo q) := Lib.hid (by rw [dotTo, if_pos hq10])
                have gi : ((q : Int) == 10) = true := by rw [beq_iff_eq]; omega
                have gn : (q == 10) = true := by rw [beq_iff_eq]; omega
                have gj : ((q : Int) != 10) = false := by rw [bne, gi]; rfl
                have gm : (q != 10) = false := by rw [bne, gn]; rfl
                have HS1 := Lib.hid hs1
                have HZ1 := Lib.hid hz1
                clear hs1 hz1 hq10
                go_wp2_with fail
                exact ⟨⟨q + 1, by omega, by go_num, by rw [HS2.out]; exact HS1.out, HZ1.out, hb1⟩, by simp [intOf]; omega⟩
              · have HS2 : Hid (dotTo (q + 1) = (dotTo q).put q) := Lib.hid (by rw [dotTo, if_neg hq10])
                have gi : ((q : Int) == 10) = false := beq_eq_false_iff_ne.2 (by omega)
                have gn : (q == 10) = false := beq_eq_false_iff_ne.2 (by omega)
                have gj : ((q : Int) != 10) = true := by rw [bne, gi]; rfl
                have gm : (q != 10) = true := by rw [bne, gn]; rfl
                obtain ⟨x0, x1, x2, x3⟩ := hs1.cells
                have HS1 := Lib.hid hs1
                have HZ1 := Lib.hid hz1
                clear hs1 hz1
                go_wp2_with fail
                refine (refPut (dotTo q) (dot_ok q) q hq6 _).mono ?_
                rintro e w2 ⟨rfl, hb2⟩
                have HS3 := Lib.hid (HS1.out.next hb2)
                have HZ3 := Lib.hid (HZ1.out.next hb2)
                have hB3 := hb1.trans (hb2.mono hb1.size)
                clear x0 x1 x2 x3 hb2
                obtain ⟨x0, x1, x2, x3⟩ := HS3.out.cells
                obtain ⟨f0, f1, f2, f3⟩ := HS3.out.frees
                go_wp2_with fail
                exact ⟨⟨q + 1, by omega, by go_num, by rw [HS2.out]; exact HS3.out.store _, At.other (At.other (At.other (At.other HZ3.out (by show w.heap.size ≠ w.heap.size + 1; omega) _) (by show w.heap.size ≠ w.heap.size + 1; omega) _) (by show w.heap.size ≠ w.heap.size + 1; omega) _) (by show w.heap.size ≠ w.heap.size + 1; omega) _, below_store hB3 (Nat.le_succ _) _⟩, by simp [intOf]; omega⟩
            · obtain rfl : q = 256 := by omega
              obtain ⟨x0, x1, x2, x3⟩ := hs1.cells
              obtain ⟨z0, z1, z2, z3, z4, z5, z6, z7, z8⟩ := hz1.cells
              obtain ⟨y0, y1, y2, y3, y4, y5, y6, y7, y8⟩ := hz1.frees
              have HZ1 := Lib.hid hz1
              clear hs1 hz1
              go_wp2_with fail
              exact bodyPost_ret (results_row_tmp Tryz.results28 _ _ w.heap.size 59 _ (0, 0) _ rfl (HZ1.out.store (setW (dotTo 256)) 0) Tryz.underlying59 rfl (by kernel_rfl)) rfl ⟨by rw [HV.out]; rfl, below_stW hb1 (Nat.le_refl _) (setW (dotTo 256)) 0⟩
        · have e46i : ((b : Int) == 46) = false := beq_eq_false_iff_ne.2 (by omega)
          have e46n : (b == 46) = false := beq_eq_false_iff_ne.2 (by omega)
          have e46j : ((b : Int) != 46) = true := by rw [bne, e46i]; rfl
          have e46m : (b != 46) = true := by rw [bne, e46n]; rfl
          have dk : decide (0 < k) = false := txt_f (by omega)
          obtain ⟨a, n, ha, hal, hnl⟩ := char_nat s p ownW
          have HC := Lib.hid ha
          have wa : IntKind.i64.wrap (a : Int) = (a : Int) := by rw [IntKind.wrap_i64]; omega
          have HV : Hid (wordS s p = (setW (St.zero.put a), (n : Int))) := Lib.hid (by unfold wordS; rw [HB.out, if_neg (by omega), if_neg (by omega), if_neg (by omega), HS.out, if_neg (by omega), if_neg (by omega), HC.out]; rfl)
          clear ha
          go_enter Tryz.func28, Tryz.ntmps28
          go_wp2_with fail
          refine (refSignsV b hbl k HS.out _).mono ?_
          rintro e w1 ⟨rfl, rfl⟩
          go_wp2_with fail
          refine (refCharV s p ownW hs (by omega) (by decide) a n HC.out _).mono ?_
          rintro e w1 ⟨rfl, q, rfl⟩
          go_wp2_with fail
          refine (refPut0 a hal _).mono ?_
          rintro e w1 ⟨rfl, hb1⟩
          have HZ1 := Lib.hid (((WdAt.zero w).drewN q).next hb1)
          have hB1 : Below w.heap.size w w1 := (below_drew (zw_below w) q).trans (hb1.mono (zw_below w).size)
          obtain ⟨z0, z1, z2, z3, z4, z5, z6, z7, z8⟩ := HZ1.out.cells
          obtain ⟨y0, y1, y2, y3, y4, y5, y6, y7, y8⟩ := HZ1.out.frees
          clear hb1
          go_wp2_with fail
          exact bodyPost_ret (results_row_tmp Tryz.results28 _ _ w.heap.size 59 _ (0, 0) _ rfl (HZ1.out.store (setW (St.zero.put a)) 0) Tryz.underlying59 rfl (by kernel_rfl)) rfl ⟨by rw [HV.out]; rfl, below_stW hB1 (Nat.le_refl _) (setW (St.zero.put a)) 0⟩
end Go.Proofs.YtkbfoelffeocmaaGreat

/- A part of what the reference's word answers. -/
namespace Go.Proofs.YtkbfoelffeocmaaGreat
open Go.RowKit
set_option linter.unusedSimpArgs false
set_option linter.unusedVariables false

set_option maxRecDepth 100000 in
set_option maxHeartbeats 8000000 in
theorem refWordB (s : ByteArray) (p : Nat) (hs : s.size ≤ 20000) (hp : p < s.size) (hb40 : ¬ bt s p = 40) (h2 : 2 < s.size - p) (w : World) :
    Calls Tryz.prog 28 #[.string s, .int .i64 p] w fun e w' => e = .returned (.tuple #[.agg (wdCells (wordS s p).1 0), .int .i64 (wordS s p).2]) ∧ Below w.heap.size w w' := by
  have hpl : p ≤ s.size := by omega
  obtain ⟨r, hr⟩ : ∃ r, s.extract p s.size = r := ⟨_, rfl⟩
  have hrs : r.size = s.size - p := by rw [← hr, drop_size]
  have hr0 : 0 < r.size := by omega
  obtain ⟨b, hb⟩ : ∃ b, (r[0]'hr0).toNat = b := ⟨_, rfl⟩
  have hbl : b < 256 := by rw [← hb]; exact UInt8.toNat_lt _
  have HB : Hid (bt s p = b) := Lib.hid (by rw [← hb, bt_is hr0, ← hr, bt_drop s p 0 hpl]; rfl)
  have hb4 : ¬ b = 40 := by rw [← HB.out]; exact hb40
  have hq : preS s p [40, 63] = false := by
    unfold preS
    rw [decide_eq_false (by rw [HB.out]; intro x; exact hb4 x.2)]
    rfl
  have d2 : decide ((2 : Int) < (r.size : Int)) = true := txt_t (by omega)
  have hr2 : 2 ≤ r.size := by omega
  have HQ : Hid (((r.extract 0 2).toList == [40, 63]) = false) := Lib.hid (by rw [two_pre s p r hr hpl hr2]; exact hq)
  have hq1 := HQ.out
  clear hrs
  by_cases b91 : b = 91
  · have e91i : ((b : Int) == 91) = true := by rw [beq_iff_eq]; omega
    have e91n : (b == 91) = true := by rw [beq_iff_eq]; omega
    have e91j : ((b : Int) != 91) = false := by rw [bne, e91i]; rfl
    have e91m : (b != 91) = false := by rw [bne, e91n]; rfl
    obtain ⟨c, n, hcn⟩ : ∃ (c : St) (n : Int), classS s p = (c, n) := ⟨_, _, rfl⟩
    have HK := Lib.hid hcn
    have HV : Hid (wordS s p = (setW c, n)) := Lib.hid (by unfold wordS; rw [HB.out, if_neg (by omega), if_pos (by omega), HK.out])
    clear hcn
    clear b91
    go_enter Tryz.func28, Tryz.ntmps28
    go_wp2_with fail
    refine (refClassV s p hs hp c n HK.out _).mono ?_
    rintro e w1 ⟨rfl, hb1⟩
    have HZ1 := Lib.hid ((WdAt.zero w).next hb1)
    have hB1 : Below w.heap.size w w1 := (zw_below w).trans (hb1.mono (zw_below w).size)
    have hz0 : w.heap.size < w1.heap.size := At.lt HZ1.out
    obtain ⟨z0, z1, z2, z3, z4, z5, z6, z7, z8⟩ := HZ1.out.cells
    obtain ⟨y0, y1, y2, y3, y4, y5, y6, y7, y8⟩ := HZ1.out.frees
    have yo0 := fun o => (WdAt.frees (HZ1.out.alloc o)).1
    have yo1 := fun o => (WdAt.frees (HZ1.out.alloc o)).2.1
    have yo2 := fun o => (WdAt.frees (HZ1.out.alloc o)).2.2.1
    have yo3 := fun o => (WdAt.frees (HZ1.out.alloc o)).2.2.2.1
    have yo4 := fun o => (WdAt.frees (HZ1.out.alloc o)).2.2.2.2.1
    have yo5 := fun o => (WdAt.frees (HZ1.out.alloc o)).2.2.2.2.2.1
    have yo6 := fun o => (WdAt.frees (HZ1.out.alloc o)).2.2.2.2.2.2.1
    have yo7 := fun o => (WdAt.frees (HZ1.out.alloc o)).2.2.2.2.2.2.2.1
    have yo8 := fun o => (WdAt.frees (HZ1.out.alloc o)).2.2.2.2.2.2.2.2
    have zo0 := fun o => (WdAt.cells (HZ1.out.alloc o)).1
    have zo1 := fun o => (WdAt.cells (HZ1.out.alloc o)).2.1
    have zo2 := fun o => (WdAt.cells (HZ1.out.alloc o)).2.2.1
    have zo3 := fun o => (WdAt.cells (HZ1.out.alloc o)).2.2.2.1
    have zo4 := fun o => (WdAt.cells (HZ1.out.alloc o)).2.2.2.2.1
    have zo5 := fun o => (WdAt.cells (HZ1.out.alloc o)).2.2.2.2.2.1
    have zo6 := fun o => (WdAt.cells (HZ1.out.alloc o)).2.2.2.2.2.2.1
    have zo7 := fun o => (WdAt.cells (HZ1.out.alloc o)).2.2.2.2.2.2.2.1
    have zo8 := fun o => (WdAt.cells (HZ1.out.alloc o)).2.2.2.2.2.2.2.2
    clear hb1
    go_wp2_with fail
    exact bodyPost_ret (results_row_tmp Tryz.results28 _ _ w.heap.size 59 _ (0, 0) _ rfl ((HZ1.out.store (setW c) 0).alloc (.cells #[.int .u64 c.w0, .int .u64 c.w1, .int .u64 c.w2, .int .u64 c.w3] 33)) Tryz.underlying59 rfl (by kernel_rfl)) rfl ⟨by rw [HV.out]; rfl, (below_stW hB1 (Nat.le_refl _) (setW c) 0).alloc (below_stW hB1 (Nat.le_refl _) (setW c) 0).size (.cells #[.int .u64 c.w0, .int .u64 c.w1, .int .u64 c.w2, .int .u64 c.w3] 33)⟩
  · have e91i : ((b : Int) == 91) = false := beq_eq_false_iff_ne.2 (by omega)
    have e91n : (b == 91) = false := beq_eq_false_iff_ne.2 (by omega)
    have e91j : ((b : Int) != 91) = true := by rw [bne, e91i]; rfl
    have e91m : (b != 91) = true := by rw [bne, e91n]; rfl
    by_cases b123 : b = 123
    · have e123i : ((b : Int) == 123) = true := by rw [beq_iff_eq]; omega
      have e123n : (b == 123) = true := by rw [beq_iff_eq]; omega
      have e123j : ((b : Int) != 123) = false := by rw [bne, e123i]; rfl
      have e123m : (b != 123) = false := by rw [bne, e123n]; rfl
      obtain ⟨x, n, hcn⟩ : ∃ (x : Wd) (n : Int), bracesS s p = (x, n) := ⟨_, _, rfl⟩
      have HK := Lib.hid hcn
      have HV : Hid (wordS s p = (x, n)) := Lib.hid (by unfold wordS; rw [HB.out, if_neg (by omega), if_neg (by omega), if_pos (by omega), HK.out])
      clear hcn
      clear b123
      go_enter Tryz.func28, Tryz.ntmps28
      go_wp2_with fail
      refine (refBracesV s p hs hp x n HK.out _).mono ?_
      rintro e w1 ⟨rfl, hb1⟩
      have HZ1 := Lib.hid ((WdAt.zero w).next hb1)
      have hB1 : Below w.heap.size w w1 := (zw_below w).trans (hb1.mono (zw_below w).size)
      obtain ⟨z0, z1, z2, z3, z4, z5, z6, z7, z8⟩ := HZ1.out.cells
      obtain ⟨y0, y1, y2, y3, y4, y5, y6, y7, y8⟩ := HZ1.out.frees
      clear hb1
      go_wp2_with fail
      exact bodyPost_ret (results_row_tmp Tryz.results28 _ _ w.heap.size 59 _ (0, 0) _ rfl (HZ1.out.store x 0) Tryz.underlying59 rfl (by kernel_rfl)) rfl ⟨by rw [HV.out]; rfl, below_stW hB1 (Nat.le_refl _) x 0⟩
    · have e123i : ((b : Int) == 123) = false := beq_eq_false_iff_ne.2 (by omega)
      have e123n : (b == 123) = false := beq_eq_false_iff_ne.2 (by omega)
      have e123j : ((b : Int) != 123) = true := by rw [bne, e123i]; rfl
      have e123m : (b != 123) = true := by rw [bne, e123n]; rfl
      obtain ⟨k, hk0⟩ : ∃ k, signsS b = k := ⟨_, rfl⟩
      have HS := Lib.hid hk0
      clear hk0
      by_cases hk : 0 < k
      · have dk : decide (0 < k) = true := txt_t hk
        have HV : Hid (wordS s p = (kindW k, 1)) := Lib.hid (by unfold wordS; rw [HB.out, if_neg (by omega), if_neg (by omega), if_neg (by omega), HS.out, if_pos hk])
        go_enter Tryz.func28, Tryz.ntmps28
        go_wp2_with fail
        refine (refSignsV b hbl k HS.out _).mono ?_
        rintro e w1 ⟨rfl, rfl⟩
        go_wp2_with fail
        refine (refSignsV b hbl k HS.out _).mono ?_
        rintro e w1 ⟨rfl, rfl⟩
        go_wp2_with fail
        refine bodyPost_ret (v := .tuple #[.agg (wdCells (kindW k) 0), .int .i64 1]) (by simp [results, Tryz.results28, go_sem, wdCells, kindW, emptyC]) rfl ⟨txt_wd HV.out, ?_⟩
        repeat (first | exact Below.refl _ _ | refine Below.drew ?_ | refine Below.alloc ?_ (by simp; try omega) _)
      · by_cases b46 : b = 46
        · have e46i : ((b : Int) == 46) = true := by rw [beq_iff_eq]; omega
          have e46n : (b == 46) = true := by rw [beq_iff_eq]; omega
          have e46j : ((b : Int) != 46) = false := by rw [bne, e46i]; rfl
          have e46m : (b != 46) = false := by rw [bne, e46n]; rfl
          have dk : decide (0 < k) = false := txt_f (by omega)
          have HV : Hid (wordS s p = (setW (dotTo 256), 1)) := Lib.hid (by unfold wordS; rw [HB.out, if_neg (by omega), if_neg (by omega), if_neg (by omega), HS.out, if_neg (by omega), if_pos (by omega)])
          clear b46
          go_enter Tryz.func28, Tryz.ntmps28
          go_wp2_with fail
          refine (refSignsV b hbl k HS.out _).mono ?_
          rintro e w1 ⟨rfl, rfl⟩
          go_wp2_with fail
          go_loopw [87] (fun x wr => ∃ q : Nat, q ≤ 256 ∧ x = .int .i64 q ∧ SetAt wr (w.heap.size + 1) 33 (dotTo q) ∧ WdAt wr w.heap.size wd0 0 ∧ Below w.heap.size w wr) (fun x _ => 256 - (intOf x).toNat)
          case atStart =>
            refine ⟨0, by omega, rfl, ?_, (WdAt.zero w).alloc _, (zw_below w).alloc (zw_below w).size _⟩
            have h := SetAt.new (zw w) 33 emptyC
            rw [zw_size] at h
            exact h
          case round =>
            obtain ⟨q, hq, rfl, hs1, hz1, hb1⟩ := hrel
            by_cases hq6 : q < 256
            · by_cases hq10 : q = 10
              · have HS2 : Hid (dotTo (q + 1) = dotTo q) := Lib.hid (by rw [dotTo, if_pos hq10])
                have gi : ((q : Int) == 10) = true := by rw [beq_iff_eq]; omega
                have gn : (q == 10) = true := by rw [beq_iff_eq]; omega
                have gj : ((q : Int) != 10) = false := by rw [bne, gi]; rfl
                have gm : (q != 10) = false := by rw [bne, gn]; rfl
                have HS1 := Lib.hid hs1
                have HZ1 := Lib.hid hz1
                clear hs1 hz1 hq10
                go_wp2_with fail
                exact ⟨⟨q + 1, by omega, by go_num, by rw [HS2.out]; exact HS1.out, HZ1.out, hb1⟩, by simp [intOf]; omega⟩
              · have HS2 : Hid (dotTo (q + 1) = (dotTo q).put q) := Lib.hid (by rw [dotTo, if_neg hq10])
                have gi : ((q : Int) == 10) = false := beq_eq_false_iff_ne.2 (by omega)
                have gn : (q == 10) = false := beq_eq_false_iff_ne.2 (by omega)
                have gj : ((q : Int) != 10) = true := by rw [bne, gi]; rfl
                have gm : (q != 10) = true := by rw [bne, gn]; rfl
                obtain ⟨x0, x1, x2, x3⟩ := hs1.cells
                have HS1 := Lib.hid hs1
                have HZ1 := Lib.hid hz1
                clear hs1 hz1
                go_wp2_with fail
                refine (refPut (dotTo q) (dot_ok q) q hq6 _).mono ?_
                rintro e w2 ⟨rfl, hb2⟩
                have HS3 := Lib.hid (HS1.out.next hb2)
                have HZ3 := Lib.hid (HZ1.out.next hb2)
                have hB3 := hb1.trans (hb2.mono hb1.size)
                clear x0 x1 x2 x3 hb2
                obtain ⟨x0, x1, x2, x3⟩ := HS3.out.cells
                obtain ⟨f0, f1, f2, f3⟩ := HS3.out.frees
                go_wp2_with fail
                exact ⟨⟨q + 1, by omega, by go_num, by rw [HS2.out]; exact HS3.out.store _, At.other (At.other (At.other (At.other HZ3.out (by show w.heap.size ≠ w.heap.size + 1; omega) _) (by show w.heap.size ≠ w.heap.size + 1; omega) _) (by show w.heap.size ≠ w.heap.size + 1; omega) _) (by show w.heap.size ≠ w.heap.size + 1; omega) _, below_store hB3 (Nat.le_succ _) _⟩, by simp [intOf]; omega⟩
            · obtain rfl : q = 256 := by omega
              obtain ⟨x0, x1, x2, x3⟩ := hs1.cells
              obtain ⟨z0, z1, z2, z3, z4, z5, z6, z7, z8⟩ := hz1.cells
              obtain ⟨y0, y1, y2, y3, y4, y5, y6, y7, y8⟩ := hz1.frees
              have HZ1 := Lib.hid hz1
              clear hs1 hz1
              go_wp2_with fail
              exact bodyPost_ret (results_row_tmp Tryz.results28 _ _ w.heap.size 59 _ (0, 0) _ rfl (HZ1.out.store (setW (dotTo 256)) 0) Tryz.underlying59 rfl (by kernel_rfl)) rfl ⟨by rw [HV.out]; rfl, below_stW hb1 (Nat.le_refl _) (setW (dotTo 256)) 0⟩
        · have e46i : ((b : Int) == 46) = false := beq_eq_false_iff_ne.2 (by omega)
          have e46n : (b == 46) = false := beq_eq_false_iff_ne.2 (by omega)
          have e46j : ((b : Int) != 46) = true := by rw [bne, e46i]; rfl
          have e46m : (b != 46) = true := by rw [bne, e46n]; rfl
          have dk : decide (0 < k) = false := txt_f (by omega)
          obtain ⟨a, n, ha, hal, hnl⟩ := char_nat s p ownW
          have HC := Lib.hid ha
          have wa : IntKind.i64.wrap (a : Int) = (a : Int) := by rw [IntKind.wrap_i64]; omega
          have HV : Hid (wordS s p = (setW (St.zero.put a), (n : Int))) := Lib.hid (by unfold wordS; rw [HB.out, if_neg (by omega), if_neg (by omega), if_neg (by omega), HS.out, if_neg (by omega), if_neg (by omega), HC.out]; rfl)
          clear ha
          go_enter Tryz.func28, Tryz.ntmps28
          go_wp2_with fail
          refine (refSignsV b hbl k HS.out _).mono ?_
          rintro e w1 ⟨rfl, rfl⟩
          go_wp2_with fail
          refine (refCharV s p ownW hs (by omega) (by decide) a n HC.out _).mono ?_
          rintro e w1 ⟨rfl, q, rfl⟩
          go_wp2_with fail
          refine (refPut0 a hal _).mono ?_
          rintro e w1 ⟨rfl, hb1⟩
          have HZ1 := Lib.hid (((WdAt.zero w).drewN q).next hb1)
          have hB1 : Below w.heap.size w w1 := (below_drew (zw_below w) q).trans (hb1.mono (zw_below w).size)
          obtain ⟨z0, z1, z2, z3, z4, z5, z6, z7, z8⟩ := HZ1.out.cells
          obtain ⟨y0, y1, y2, y3, y4, y5, y6, y7, y8⟩ := HZ1.out.frees
          clear hb1
          go_wp2_with fail
          exact bodyPost_ret (results_row_tmp Tryz.results28 _ _ w.heap.size 59 _ (0, 0) _ rfl (HZ1.out.store (setW (St.zero.put a)) 0) Tryz.underlying59 rfl (by kernel_rfl)) rfl ⟨by rw [HV.out]; rfl, below_stW hB1 (Nat.le_refl _) (setW (St.zero.put a)) 0⟩
end Go.Proofs.YtkbfoelffeocmaaGreat

/- A part of what the reference's word answers. -/
namespace Go.Proofs.YtkbfoelffeocmaaGreat
open Go.RowKit
set_option linter.unusedSimpArgs false
set_option linter.unusedVariables false

set_option maxRecDepth 100000 in
set_option maxHeartbeats 8000000 in
theorem refWordC (s : ByteArray) (p : Nat) (hs : s.size ≤ 20000) (hp : p < s.size) (hb40 : bt s p = 40) (h2 : ¬ 2 < s.size - p) (w : World) :
    Calls Tryz.prog 28 #[.string s, .int .i64 p] w fun e w' => e = .returned (.tuple #[.agg (wdCells (wordS s p).1 0), .int .i64 (wordS s p).2]) ∧ Below w.heap.size w w' := by
  have hpl : p ≤ s.size := by omega
  obtain ⟨r, hr⟩ : ∃ r, s.extract p s.size = r := ⟨_, rfl⟩
  have hrs : r.size = s.size - p := by rw [← hr, drop_size]
  have hr0 : 0 < r.size := by omega
  obtain ⟨b, hb⟩ : ∃ b, (r[0]'hr0).toNat = b := ⟨_, rfl⟩
  have hbl : b < 256 := by rw [← hb]; exact UInt8.toNat_lt _
  have HB : Hid (bt s p = b) := Lib.hid (by rw [← hb, bt_is hr0, ← hr, bt_drop s p 0 hpl]; rfl)
  have hb4 : b = 40 := by rw [← HB.out]; exact hb40
  obtain ⟨k, hk0⟩ : ∃ k : Int, k = 2 := ⟨_, rfl⟩
  have HS : Hid (signsS b = k) := Lib.hid (by rw [hk0, hb4]; rfl)
  have hk : 0 < k := by omega
  have e91i : ((b : Int) == 91) = false := beq_eq_false_iff_ne.2 (by omega)
  have e91n : (b == 91) = false := beq_eq_false_iff_ne.2 (by omega)
  have e91j : ((b : Int) != 91) = true := by rw [bne, e91i]; rfl
  have e91m : (b != 91) = true := by rw [bne, e91n]; rfl
  have e123i : ((b : Int) == 123) = false := beq_eq_false_iff_ne.2 (by omega)
  have e123n : (b == 123) = false := beq_eq_false_iff_ne.2 (by omega)
  have e123j : ((b : Int) != 123) = true := by rw [bne, e123i]; rfl
  have e123m : (b != 123) = true := by rw [bne, e123n]; rfl
  have HO : Hid (openS s p = (kindW k, 1)) := Lib.hid (by rw [open_is, hk0]; rw [if_neg (by omega)]; rw [if_neg (by omega)]; rw [if_neg (by omega)]; rw [if_neg (by omega)])
  clear hk0
  have d2 : decide ((2 : Int) < (r.size : Int)) = false := txt_f (by omega)
  clear hrs
  have dk : decide (0 < k) = true := txt_t hk
  have HV : Hid (wordS s p = (kindW k, 1)) := Lib.hid (by unfold wordS; rw [HB.out, if_pos (by omega), HO.out])
  clear hb4 hb40
  go_enter Tryz.func28, Tryz.ntmps28
  go_wp2_with fail
  refine (refSignsV b hbl k HS.out _).mono ?_
  rintro e w1 ⟨rfl, rfl⟩
  go_wp2_with fail
  refine (refSignsV b hbl k HS.out _).mono ?_
  rintro e w1 ⟨rfl, rfl⟩
  go_wp2_with fail
  refine bodyPost_ret (v := .tuple #[.agg (wdCells (kindW k) 0), .int .i64 1]) (by simp [results, Tryz.results28, go_sem, wdCells, kindW, emptyC]) rfl ⟨txt_wd HV.out, ?_⟩
  repeat (first | exact Below.refl _ _ | refine Below.drew ?_ | refine Below.alloc ?_ (by simp; try omega) _)
end Go.Proofs.YtkbfoelffeocmaaGreat

/- A part of what the reference's word answers. -/
namespace Go.Proofs.YtkbfoelffeocmaaGreat
open Go.RowKit
set_option linter.unusedSimpArgs false
set_option linter.unusedVariables false

set_option maxRecDepth 100000 in
set_option maxHeartbeats 8000000 in
theorem refWordD (s : ByteArray) (p : Nat) (hs : s.size ≤ 20000) (hp : p < s.size) (hb40 : bt s p = 40) (h2 : 2 < s.size - p) (h1 : ¬ bt s (p + 1) = 63) (w : World) :
    Calls Tryz.prog 28 #[.string s, .int .i64 p] w fun e w' => e = .returned (.tuple #[.agg (wdCells (wordS s p).1 0), .int .i64 (wordS s p).2]) ∧ Below w.heap.size w w' := by
  have hpl : p ≤ s.size := by omega
  obtain ⟨r, hr⟩ : ∃ r, s.extract p s.size = r := ⟨_, rfl⟩
  have hrs : r.size = s.size - p := by rw [← hr, drop_size]
  have hr0 : 0 < r.size := by omega
  obtain ⟨b, hb⟩ : ∃ b, (r[0]'hr0).toNat = b := ⟨_, rfl⟩
  have hbl : b < 256 := by rw [← hb]; exact UInt8.toNat_lt _
  have HB : Hid (bt s p = b) := Lib.hid (by rw [← hb, bt_is hr0, ← hr, bt_drop s p 0 hpl]; rfl)
  have hb4 : b = 40 := by rw [← HB.out]; exact hb40
  obtain ⟨k, hk0⟩ : ∃ k : Int, k = 2 := ⟨_, rfl⟩
  have HS : Hid (signsS b = k) := Lib.hid (by rw [hk0, hb4]; rfl)
  have hk : 0 < k := by omega
  have e91i : ((b : Int) == 91) = false := beq_eq_false_iff_ne.2 (by omega)
  have e91n : (b == 91) = false := beq_eq_false_iff_ne.2 (by omega)
  have e91j : ((b : Int) != 91) = true := by rw [bne, e91i]; rfl
  have e91m : (b != 91) = true := by rw [bne, e91n]; rfl
  have e123i : ((b : Int) == 123) = false := beq_eq_false_iff_ne.2 (by omega)
  have e123n : (b == 123) = false := beq_eq_false_iff_ne.2 (by omega)
  have e123j : ((b : Int) != 123) = true := by rw [bne, e123i]; rfl
  have e123m : (b != 123) = true := by rw [bne, e123n]; rfl
  have HO : Hid (openS s p = (kindW k, 1)) := Lib.hid (by rw [open_is, hk0]; rw [if_neg (by omega)]; rw [if_neg (by omega)]; rw [if_neg (by omega)]; rw [if_neg (by omega)])
  clear hk0
  have hq : preS s p [40, 63] = false := by rw [pre2, decide_eq_false (by intro x; exact h1 x.2.2)]
  have d2 : decide ((2 : Int) < (r.size : Int)) = true := txt_t (by omega)
  have hr2 : 2 ≤ r.size := by omega
  have HQ : Hid (((r.extract 0 2).toList == [40, 63]) = false) := Lib.hid (by rw [two_pre s p r hr hpl hr2]; exact hq)
  have hq1 := HQ.out
  clear hrs
  have dk : decide (0 < k) = true := txt_t hk
  have HV : Hid (wordS s p = (kindW k, 1)) := Lib.hid (by unfold wordS; rw [HB.out, if_pos (by omega), HO.out])
  clear hb4 hb40
  go_enter Tryz.func28, Tryz.ntmps28
  go_wp2_with fail
  refine (refSignsV b hbl k HS.out _).mono ?_
  rintro e w1 ⟨rfl, rfl⟩
  go_wp2_with fail
  refine (refSignsV b hbl k HS.out _).mono ?_
  rintro e w1 ⟨rfl, rfl⟩
  go_wp2_with fail
  refine bodyPost_ret (v := .tuple #[.agg (wdCells (kindW k) 0), .int .i64 1]) (by simp [results, Tryz.results28, go_sem, wdCells, kindW, emptyC]) rfl ⟨txt_wd HV.out, ?_⟩
  repeat (first | exact Below.refl _ _ | refine Below.drew ?_ | refine Below.alloc ?_ (by simp; try omega) _)
end Go.Proofs.YtkbfoelffeocmaaGreat

/- A part of what the reference's word answers. -/
namespace Go.Proofs.YtkbfoelffeocmaaGreat
open Go.RowKit
set_option linter.unusedSimpArgs false
set_option linter.unusedVariables false

set_option maxRecDepth 100000 in
set_option maxHeartbeats 8000000 in
theorem refWordE (s : ByteArray) (p : Nat) (hs : s.size ≤ 20000) (hp : p < s.size) (hb40 : bt s p = 40) (h2 : 2 < s.size - p) (h1 : bt s (p + 1) = 63) (w : World) :
    Calls Tryz.prog 28 #[.string s, .int .i64 p] w fun e w' => e = .returned (.tuple #[.agg (wdCells (wordS s p).1 0), .int .i64 (wordS s p).2]) ∧ Below w.heap.size w w' := by
  have hpl : p ≤ s.size := by omega
  obtain ⟨r, hr⟩ : ∃ r, s.extract p s.size = r := ⟨_, rfl⟩
  have hrs : r.size = s.size - p := by rw [← hr, drop_size]
  have hr0 : 0 < r.size := by omega
  obtain ⟨b, hb⟩ : ∃ b, (r[0]'hr0).toNat = b := ⟨_, rfl⟩
  have hbl : b < 256 := by rw [← hb]; exact UInt8.toNat_lt _
  have HB : Hid (bt s p = b) := Lib.hid (by rw [← hb, bt_is hr0, ← hr, bt_drop s p 0 hpl]; rfl)
  have hb4 : b = 40 := by rw [← HB.out]; exact hb40
  obtain ⟨k, hk0⟩ : ∃ k : Int, k = 2 := ⟨_, rfl⟩
  have HS : Hid (signsS b = k) := Lib.hid (by rw [hk0, hb4]; rfl)
  have hk : 0 < k := by omega
  have e91i : ((b : Int) == 91) = false := beq_eq_false_iff_ne.2 (by omega)
  have e91n : (b == 91) = false := beq_eq_false_iff_ne.2 (by omega)
  have e91j : ((b : Int) != 91) = true := by rw [bne, e91i]; rfl
  have e91m : (b != 91) = true := by rw [bne, e91n]; rfl
  have e123i : ((b : Int) == 123) = false := beq_eq_false_iff_ne.2 (by omega)
  have e123n : (b == 123) = false := beq_eq_false_iff_ne.2 (by omega)
  have e123j : ((b : Int) != 123) = true := by rw [bne, e123i]; rfl
  have e123m : (b != 123) = true := by rw [bne, e123n]; rfl
  have hq : preS s p [40, 63] = true := by rw [pre2, decide_eq_true ⟨⟨by omega, hb40⟩, ⟨by omega, h1⟩⟩]
  have d2b : decide ((2 : Int) < (r.size : Int)) = true := txt_t (by omega)
  have hr2 : 2 ≤ r.size := by omega
  have HQ : Hid (((r.extract 0 2).toList == [40, 63]) = true) := Lib.hid (by rw [two_pre s p r hr hpl hr2]; exact hq)
  have hq1 := HQ.out
  have h2r : 2 < r.size := by omega
  obtain ⟨d2, hd2⟩ : ∃ b, (r[2]'h2r).toNat = b := ⟨_, rfl⟩
  have hdl2 : d2 < 256 := by rw [← hd2]; exact UInt8.toNat_lt _
  have HB2 : bt s (p + 2) = d2 := by rw [← hd2, bt_is h2r, ← hr, bt_drop s p 2 hpl]
  by_cases c60 : d2 = 60
  · have f60i : ((d2 : Int) == 60) = true := by rw [beq_iff_eq]; omega
    have f60n : (d2 == 60) = true := by rw [beq_iff_eq]; omega
    have f60j : ((d2 : Int) != 60) = false := by rw [bne, f60i]; rfl
    have f60m : (d2 != 60) = false := by rw [bne, f60n]; rfl
    by_cases h3 : 3 < r.size
    · have d3b : decide ((3 : Int) < (r.size : Int)) = true := txt_t (by omega)
      obtain ⟨d3, hd3⟩ : ∃ b, (r[3]'h3).toNat = b := ⟨_, rfl⟩
      have hdl3 : d3 < 256 := by rw [← hd3]; exact UInt8.toNat_lt _
      have HB3 : bt s (p + 3) = d3 := by rw [← hd3, bt_is h3, ← hr, bt_drop s p 3 hpl]
      by_cases c61 : d3 = 61
      · have f61i : ((d3 : Int) == 61) = true := by rw [beq_iff_eq]; omega
        have f61n : (d3 == 61) = true := by rw [beq_iff_eq]; omega
        have f61j : ((d3 : Int) != 61) = false := by rw [bne, f61i]; rfl
        have f61m : (d3 != 61) = false := by rw [bne, f61n]; rfl
        have HV : Hid (wordS s p = (kindW 14, 4)) := Lib.hid (by unfold wordS; rw [HB.out, if_pos (by omega), open_is]; rw [if_neg (by omega)]; rw [if_neg (by omega)]; rw [if_pos (by omega)])
        go_enter Tryz.func28, Tryz.ntmps28
        go_wp2_with fail
        refine bodyPost_ret (v := .tuple #[.agg (wdCells (kindW 14) 0), .int .i64 4]) (by simp [results, Tryz.results28, go_sem, wdCells, kindW, emptyC]) rfl ⟨txt_wd HV.out, ?_⟩
        repeat (first | exact Below.refl _ _ | refine Below.drew ?_ | refine Below.alloc ?_ (by simp; try omega) _)
      · have f61i : ((d3 : Int) == 61) = false := beq_eq_false_iff_ne.2 (by omega)
        have f61n : (d3 == 61) = false := beq_eq_false_iff_ne.2 (by omega)
        have f61j : ((d3 : Int) != 61) = true := by rw [bne, f61i]; rfl
        have f61m : (d3 != 61) = true := by rw [bne, f61n]; rfl
        by_cases c33 : d3 = 33
        · have f33i : ((d3 : Int) == 33) = true := by rw [beq_iff_eq]; omega
          have f33n : (d3 == 33) = true := by rw [beq_iff_eq]; omega
          have f33j : ((d3 : Int) != 33) = false := by rw [bne, f33i]; rfl
          have f33m : (d3 != 33) = false := by rw [bne, f33n]; rfl
          have HV : Hid (wordS s p = (kindW 15, 4)) := Lib.hid (by unfold wordS; rw [HB.out, if_pos (by omega), open_is]; rw [if_neg (by omega)]; rw [if_neg (by omega)]; rw [if_neg (by omega)]; rw [if_pos (by omega)])
          go_enter Tryz.func28, Tryz.ntmps28
          go_wp2_with fail
          refine bodyPost_ret (v := .tuple #[.agg (wdCells (kindW 15) 0), .int .i64 4]) (by simp [results, Tryz.results28, go_sem, wdCells, kindW, emptyC]) rfl ⟨txt_wd HV.out, ?_⟩
          repeat (first | exact Below.refl _ _ | refine Below.drew ?_ | refine Below.alloc ?_ (by simp; try omega) _)
        · have f33i : ((d3 : Int) == 33) = false := beq_eq_false_iff_ne.2 (by omega)
          have f33n : (d3 == 33) = false := beq_eq_false_iff_ne.2 (by omega)
          have f33j : ((d3 : Int) != 33) = true := by rw [bne, f33i]; rfl
          have f33m : (d3 != 33) = true := by rw [bne, f33n]; rfl
          have HO : Hid (openS s p = (kindW k, 1)) := Lib.hid (by rw [open_is, hk0]; rw [if_neg (by omega)]; rw [if_neg (by omega)]; rw [if_neg (by omega)]; rw [if_neg (by omega)])
          clear hk0 hrs HB2 HB3
          have dk : decide (0 < k) = true := txt_t hk
          have HV : Hid (wordS s p = (kindW k, 1)) := Lib.hid (by unfold wordS; rw [HB.out, if_pos (by omega), HO.out])
          clear hb4 hb40
          go_enter Tryz.func28, Tryz.ntmps28
          go_wp2_with fail
          refine (refSignsV b hbl k HS.out _).mono ?_
          rintro e w1 ⟨rfl, rfl⟩
          go_wp2_with fail
          refine (refSignsV b hbl k HS.out _).mono ?_
          rintro e w1 ⟨rfl, rfl⟩
          go_wp2_with fail
          refine bodyPost_ret (v := .tuple #[.agg (wdCells (kindW k) 0), .int .i64 1]) (by simp [results, Tryz.results28, go_sem, wdCells, kindW, emptyC]) rfl ⟨txt_wd HV.out, ?_⟩
          repeat (first | exact Below.refl _ _ | refine Below.drew ?_ | refine Below.alloc ?_ (by simp; try omega) _)
    · have d3b : decide ((3 : Int) < (r.size : Int)) = false := txt_f (by omega)
      have HO : Hid (openS s p = (kindW k, 1)) := Lib.hid (by rw [open_is, hk0]; rw [if_neg (by omega)]; rw [if_neg (by omega)]; rw [if_neg (by omega)]; rw [if_neg (by omega)])
      clear hk0 hrs HB2
      have dk : decide (0 < k) = true := txt_t hk
      have HV : Hid (wordS s p = (kindW k, 1)) := Lib.hid (by unfold wordS; rw [HB.out, if_pos (by omega), HO.out])
      clear hb4 hb40
      go_enter Tryz.func28, Tryz.ntmps28
      go_wp2_with fail
      refine (refSignsV b hbl k HS.out _).mono ?_
      rintro e w1 ⟨rfl, rfl⟩
      go_wp2_with fail
      refine (refSignsV b hbl k HS.out _).mono ?_
      rintro e w1 ⟨rfl, rfl⟩
      go_wp2_with fail
      refine bodyPost_ret (v := .tuple #[.agg (wdCells (kindW k) 0), .int .i64 1]) (by simp [results, Tryz.results28, go_sem, wdCells, kindW, emptyC]) rfl ⟨txt_wd HV.out, ?_⟩
      repeat (first | exact Below.refl _ _ | refine Below.drew ?_ | refine Below.alloc ?_ (by simp; try omega) _)
  · have f60i : ((d2 : Int) == 60) = false := beq_eq_false_iff_ne.2 (by omega)
    have f60n : (d2 == 60) = false := beq_eq_false_iff_ne.2 (by omega)
    have f60j : ((d2 : Int) != 60) = true := by rw [bne, f60i]; rfl
    have f60m : (d2 != 60) = true := by rw [bne, f60n]; rfl
    by_cases c61 : d2 = 61
    · have f61i : ((d2 : Int) == 61) = true := by rw [beq_iff_eq]; omega
      have f61n : (d2 == 61) = true := by rw [beq_iff_eq]; omega
      have f61j : ((d2 : Int) != 61) = false := by rw [bne, f61i]; rfl
      have f61m : (d2 != 61) = false := by rw [bne, f61n]; rfl
      have HV : Hid (wordS s p = (kindW 12, 3)) := Lib.hid (by unfold wordS; rw [HB.out, if_pos (by omega), open_is]; rw [if_pos (by omega)])
      go_enter Tryz.func28, Tryz.ntmps28
      go_wp2_with fail
      refine bodyPost_ret (v := .tuple #[.agg (wdCells (kindW 12) 0), .int .i64 3]) (by simp [results, Tryz.results28, go_sem, wdCells, kindW, emptyC]) rfl ⟨txt_wd HV.out, ?_⟩
      repeat (first | exact Below.refl _ _ | refine Below.drew ?_ | refine Below.alloc ?_ (by simp; try omega) _)
    · have f61i : ((d2 : Int) == 61) = false := beq_eq_false_iff_ne.2 (by omega)
      have f61n : (d2 == 61) = false := beq_eq_false_iff_ne.2 (by omega)
      have f61j : ((d2 : Int) != 61) = true := by rw [bne, f61i]; rfl
      have f61m : (d2 != 61) = true := by rw [bne, f61n]; rfl
      by_cases c33 : d2 = 33
      · have f33i : ((d2 : Int) == 33) = true := by rw [beq_iff_eq]; omega
        have f33n : (d2 == 33) = true := by rw [beq_iff_eq]; omega
        have f33j : ((d2 : Int) != 33) = false := by rw [bne, f33i]; rfl
        have f33m : (d2 != 33) = false := by rw [bne, f33n]; rfl
        have HV : Hid (wordS s p = (kindW 13, 3)) := Lib.hid (by unfold wordS; rw [HB.out, if_pos (by omega), open_is]; rw [if_neg (by omega)]; rw [if_pos (by omega)])
        go_enter Tryz.func28, Tryz.ntmps28
        go_wp2_with fail
        refine bodyPost_ret (v := .tuple #[.agg (wdCells (kindW 13) 0), .int .i64 3]) (by simp [results, Tryz.results28, go_sem, wdCells, kindW, emptyC]) rfl ⟨txt_wd HV.out, ?_⟩
        repeat (first | exact Below.refl _ _ | refine Below.drew ?_ | refine Below.alloc ?_ (by simp; try omega) _)
      · have f33i : ((d2 : Int) == 33) = false := beq_eq_false_iff_ne.2 (by omega)
        have f33n : (d2 == 33) = false := beq_eq_false_iff_ne.2 (by omega)
        have f33j : ((d2 : Int) != 33) = true := by rw [bne, f33i]; rfl
        have f33m : (d2 != 33) = true := by rw [bne, f33n]; rfl
        have HO : Hid (openS s p = (kindW k, 1)) := Lib.hid (by rw [open_is, hk0]; rw [if_neg (by omega)]; rw [if_neg (by omega)]; rw [if_neg (by omega)]; rw [if_neg (by omega)])
        clear hk0 hrs HB2
        have dk : decide (0 < k) = true := txt_t hk
        have HV : Hid (wordS s p = (kindW k, 1)) := Lib.hid (by unfold wordS; rw [HB.out, if_pos (by omega), HO.out])
        clear hb4 hb40
        go_enter Tryz.func28, Tryz.ntmps28
        go_wp2_with fail
        refine (refSignsV b hbl k HS.out _).mono ?_
        rintro e w1 ⟨rfl, rfl⟩
        go_wp2_with fail
        refine (refSignsV b hbl k HS.out _).mono ?_
        rintro e w1 ⟨rfl, rfl⟩
        go_wp2_with fail
        refine bodyPost_ret (v := .tuple #[.agg (wdCells (kindW k) 0), .int .i64 1]) (by simp [results, Tryz.results28, go_sem, wdCells, kindW, emptyC]) rfl ⟨txt_wd HV.out, ?_⟩
        repeat (first | exact Below.refl _ _ | refine Below.drew ?_ | refine Below.alloc ?_ (by simp; try omega) _)
end Go.Proofs.YtkbfoelffeocmaaGreat

/- What the reference's word answers. -/
namespace Go.Proofs.YtkbfoelffeocmaaGreat
open Go.RowKit
set_option linter.unusedSimpArgs false
set_option linter.unusedVariables false

theorem refWord (s : ByteArray) (p : Nat) (hs : s.size ≤ 20000) (hp : p < s.size) (w : World) :
    Calls Tryz.prog 28 #[.string s, .int .i64 p] w fun e w' => e = .returned (.tuple #[.agg (wdCells (wordS s p).1 0), .int .i64 (wordS s p).2]) ∧ Below w.heap.size w w' := by
  by_cases h2 : 2 < s.size - p
  · by_cases hb : bt s p = 40
    · by_cases h1 : bt s (p + 1) = 63
      · exact refWordE s p hs hp hb h2 h1 w
      · exact refWordD s p hs hp hb h2 h1 w
    · exact refWordB s p hs hp hb h2 w
  · by_cases hb : bt s p = 40
    · exact refWordC s p hs hp hb h2 w
    · exact refWordA s p hs hp hb h2 w
end Go.Proofs.YtkbfoelffeocmaaGreat
