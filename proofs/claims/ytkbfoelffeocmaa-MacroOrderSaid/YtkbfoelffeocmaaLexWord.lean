/- What the program's word answers. -/
import Derived.Test.YtkbfoelffeocmaaMc
namespace Go.Proofs.Ytkbfoelffeocmaa
open Go.RowKit
set_option linter.unusedSimpArgs false
set_option linter.unusedVariables false

/-- What the program's word answers at the beginning of a text. -/
def wordP (t : ByteArray) : Wd × Int :=
  if bt t 0 = 92 then (setW (St.zero.put (escT t).1.toNat), (escT t).2)
  else if bt t 0 = 91 then (setW (classS t 0).1, (classS t 0).2)
  else if bt t 0 = 46 then (setW (St.zero.put 10).not, 1)
  else if bt t 0 = 123 then bracesS t 0
  else if bt t 0 = 40 then openS t 0
  else if bt t 0 = 93 ∨ bt t 0 = 125 then (wd0, 0)
  else if lexSignS (bt t 0) = 0 then (setW (St.zero.put (bt t 0)), 1)
  else (kindW (lexSignS (bt t 0)), 1)
theorem esc_nat (t : ByteArray) : ∃ a n : Nat, escT t = ((a : Int), (n : Int)) ∧ a < 256 ∧ n ≤ 4 := by
  unfold escT
  split
  · exact ⟨0, 0, rfl, by omega, by omega⟩
  · have := esc_bounds t 0 (bt t 1) (bt_lt t 1)
    refine ⟨(escS t 0 (bt t 1)).1.toNat, (escS t 0 (bt t 1)).2.toNat, ?_, by omega, by omega⟩
    rw [Int.toNat_of_nonneg (by omega), Int.toNat_of_nonneg (by omega)]
theorem lexEscapeV (t : ByteArray) (hs : t.size ≤ 20000) (a n : Nat) (h : escT t = ((a : Int), (n : Int))) (w : World) :
    Calls Try.prog 28 #[.string t] w fun e w' => e = .returned (.tuple #[.int .u8 a, .int .i64 n]) ∧ ∃ n, w' = w.drewN n := by
  have := lexEscape t hs w
  rw [h] at this
  exact this
theorem lexClassV (t : ByteArray) (hs : t.size ≤ 20000) (h0 : 0 < t.size) (c : St) (n : Int) (h : classS t 0 = (c, n)) (w : World) :
    Calls Try.prog 31 #[.string t] w fun e w' => e = .returned (.tuple #[.agg #[.int .u64 c.w0, .int .u64 c.w1, .int .u64 c.w2, .int .u64 c.w3], .int .i64 n]) ∧ Below w.heap.size w w' := by
  have := lexClass t hs h0 w
  rw [h] at this
  exact this
theorem lexBracesV (t : ByteArray) (hs : t.size ≤ 20000) (h0 : 0 < t.size) (hb : bt t 0 = 123) (x : Wd) (n : Int) (h : bracesS t 0 = (x, n)) (w : World) :
    Calls Try.prog 33 #[.string t] w fun e w' => e = .returned (.tuple #[.agg #[.int .i64 x.kind, .int .i64 0, .int .u64 x.set.w0, .int .u64 x.set.w1, .int .u64 x.set.w2, .int .u64 x.set.w3, .string x.name, .int .i64 x.lo, .int .i64 x.hi], .int .i64 n]) ∧ Below w.heap.size w w' := by
  have := lexBraces t hs h0 hb w
  rw [h] at this
  exact this
theorem lexOpenV (t : ByteArray) (x : Wd) (n : Int) (h : openS t 0 = (x, n)) (w : World) :
    Calls Try.prog 34 #[.string t] w fun e w' => e = .returned (.tuple #[.agg #[.int .i64 x.kind, .int .i64 0, .int .u64 x.set.w0, .int .u64 x.set.w1, .int .u64 x.set.w2, .int .u64 x.set.w3, .string x.name, .int .i64 x.lo, .int .i64 x.hi], .int .i64 n]) ∧ Below w.heap.size w w' := by
  have := lexOpen t w
  rw [h] at this
  exact this
theorem lexBytesV (c : St) (n : Int) (w : World) :
    Calls Try.prog 29 #[.agg #[.int .u64 c.w0, .int .u64 c.w1, .int .u64 c.w2, .int .u64 c.w3], .int .i64 n] w fun e w' => e = .returned (.tuple #[.agg #[.int .i64 1, .int .i64 0, .int .u64 c.w0, .int .u64 c.w1, .int .u64 c.w2, .int .u64 c.w3, .string { data := #[] }, .int .i64 0, .int .i64 0], .int .i64 n]) ∧ Below w.heap.size w w' := lexBytes c n w

set_option maxRecDepth 100000 in
set_option maxHeartbeats 8000000 in
theorem lexWord (t : ByteArray) (hs : t.size ≤ 20000) (h0 : 0 < t.size) (w : World) :
    Calls Try.prog 22 #[.string t] w fun e w' => e = .returned (.tuple #[.agg (wdCells (wordP t).1 0), .int .i64 (wordP t).2]) ∧ Below w.heap.size w w' := by
  obtain ⟨b, hb⟩ : ∃ b, (t[0]'h0).toNat = b := ⟨_, rfl⟩
  have hbl : b < 256 := by rw [← hb]; exact UInt8.toNat_lt _
  have HB : Hid (bt t 0 = b) := Lib.hid (by rw [← bt_is h0]; exact hb)
  by_cases b92 : b = 92
  · have e92i : ((b : Int) == 92) = true := by rw [beq_iff_eq]; omega
    have e92n : (b == 92) = true := by rw [beq_iff_eq]; omega
    have e92j : ((b : Int) != 92) = false := by rw [bne, e92i]; rfl
    have e92m : (b != 92) = false := by rw [bne, e92n]; rfl
    obtain ⟨a, n, ha, hal, hnl⟩ := esc_nat t
    have HC := Lib.hid ha
    clear ha
    have HV : Hid (wordP t = (setW (St.zero.put a), (n : Int))) := Lib.hid (by unfold wordP; rw [HB.out, if_pos (by omega)]; rw [HC.out]; rfl)
    clear b92
    go_enter Try.func22, Try.ntmps22
    go_wp2_with fail
    refine (lexEscapeV t hs a n HC.out _).mono ?_
    rintro e w0 ⟨rfl, q, rfl⟩
    go_wp2_with fail
    refine (setOf1 a (by omega) _ (w.heap.size + 1) (by
      have h := At.new ((zw w).drewN q) 5 #[.int .u8 (a : Nat)]
      rw [show ((zw w).drewN q).heap.size = w.heap.size + 1 from zw_size w] at h
      exact h)).mono ?_
    rintro e w1 ⟨rfl, hb1⟩
    have HZ1 := Lib.hid ((((WdAt.zero w).drewN q).alloc (.cells #[.int .u8 (a : Nat)] 5)).next hb1)
    have hB1 : Below w.heap.size w w1 := ((below_drew (zw_below w) q).alloc (below_drew (zw_below w) q).size _).trans (hb1.mono ((below_drew (zw_below w) q).alloc (below_drew (zw_below w) q).size _).size)
    clear hb1
    go_wp2_with fail
    refine (lexBytesV (St.zero.put a) n _).mono ?_
    rintro e w9 ⟨rfl, hb9⟩
    have HZ9 := Lib.hid (HZ1.out.next hb9)
    have hB9 : Below w.heap.size w w9 := hB1.trans (hb9.mono hB1.size)
    obtain ⟨z0, z1, z2, z3, z4, z5, z6, z7, z8⟩ := HZ9.out.cells
    obtain ⟨y0, y1, y2, y3, y4, y5, y6, y7, y8⟩ := HZ9.out.frees
    clear hb9
    go_wp2_with fail
    exact bodyPost_ret (results_row_tmp Try.results22 _ _ w.heap.size 57 _ (0, 0) _ rfl (HZ9.out.store (setW (St.zero.put a)) 0) Try.underlying57 rfl (by kernel_rfl)) rfl ⟨by rw [HV.out]; rfl, below_stW hB9 (Nat.le_refl _) (setW (St.zero.put a)) 0⟩
  · have e92i : ((b : Int) == 92) = false := beq_eq_false_iff_ne.2 (by omega)
    have e92n : (b == 92) = false := beq_eq_false_iff_ne.2 (by omega)
    have e92j : ((b : Int) != 92) = true := by rw [bne, e92i]; rfl
    have e92m : (b != 92) = true := by rw [bne, e92n]; rfl
    by_cases b91 : b = 91
    · have e91i : ((b : Int) == 91) = true := by rw [beq_iff_eq]; omega
      have e91n : (b == 91) = true := by rw [beq_iff_eq]; omega
      have e91j : ((b : Int) != 91) = false := by rw [bne, e91i]; rfl
      have e91m : (b != 91) = false := by rw [bne, e91n]; rfl
      obtain ⟨c, n, hcn⟩ : ∃ (c : St) (n : Int), classS t 0 = (c, n) := ⟨_, _, rfl⟩
      have HK := Lib.hid hcn
      have HV : Hid (wordP t = (setW c, n)) := Lib.hid (by unfold wordP; rw [HB.out, if_neg (by omega), if_pos (by omega)]; rw [HK.out])
      clear hcn b91
      go_enter Try.func22, Try.ntmps22
      go_wp2_with fail
      refine (lexClassV t hs h0 c n HK.out _).mono ?_
      rintro e w1 ⟨rfl, hb1⟩
      have HZ1 := Lib.hid ((WdAt.zero w).next hb1)
      have hB1 : Below w.heap.size w w1 := (zw_below w).trans (hb1.mono (zw_below w).size)
      clear hb1
      go_wp2_with fail
      refine (lexBytesV (c) n _).mono ?_
      rintro e w9 ⟨rfl, hb9⟩
      have HZ9 := Lib.hid (HZ1.out.next hb9)
      have hB9 : Below w.heap.size w w9 := hB1.trans (hb9.mono hB1.size)
      obtain ⟨z0, z1, z2, z3, z4, z5, z6, z7, z8⟩ := HZ9.out.cells
      obtain ⟨y0, y1, y2, y3, y4, y5, y6, y7, y8⟩ := HZ9.out.frees
      clear hb9
      go_wp2_with fail
      exact bodyPost_ret (results_row_tmp Try.results22 _ _ w.heap.size 57 _ (0, 0) _ rfl (HZ9.out.store (setW (c)) 0) Try.underlying57 rfl (by kernel_rfl)) rfl ⟨by rw [HV.out]; rfl, below_stW hB9 (Nat.le_refl _) (setW (c)) 0⟩
    · have e91i : ((b : Int) == 91) = false := beq_eq_false_iff_ne.2 (by omega)
      have e91n : (b == 91) = false := beq_eq_false_iff_ne.2 (by omega)
      have e91j : ((b : Int) != 91) = true := by rw [bne, e91i]; rfl
      have e91m : (b != 91) = true := by rw [bne, e91n]; rfl
      by_cases b46 : b = 46
      · have e46i : ((b : Int) == 46) = true := by rw [beq_iff_eq]; omega
        have e46n : (b == 46) = true := by rw [beq_iff_eq]; omega
        have e46j : ((b : Int) != 46) = false := by rw [bne, e46i]; rfl
        have e46m : (b != 46) = false := by rw [bne, e46n]; rfl
        have HV : Hid (wordP t = (setW (St.zero.put 10).not, 1)) := Lib.hid (by unfold wordP; rw [HB.out, if_neg (by omega), if_neg (by omega), if_pos (by omega)])
        clear b46
        go_enter Try.func22, Try.ntmps22
        go_wp2_with fail
        refine (setOf1 10 (by omega) _ (w.heap.size + 1) (by
          have h := At.new (zw w) 5 #[.int .u8 (10 : Nat)]
          rw [show (zw w).heap.size = w.heap.size + 1 from zw_size w] at h
          exact h)).mono ?_
        rintro e w1 ⟨rfl, hb1⟩
        have HZ1 := Lib.hid (((WdAt.zero w).alloc (.cells #[.int .u8 (10 : Nat)] 5)).next hb1)
        have hB1 : Below w.heap.size w w1 := ((zw_below w).alloc (zw_below w).size _).trans (hb1.mono ((zw_below w).alloc (zw_below w).size _).size)
        clear hb1
        go_wp2_with fail
        refine (setNot (St.zero.put 10) (St.put_ok St.zero_ok 10) _).mono ?_
        rintro e w2 ⟨rfl, hb2⟩
        have HZ2 := Lib.hid (HZ1.out.next hb2)
        have hB2 : Below w.heap.size w w2 := hB1.trans (hb2.mono hB1.size)
        clear hb2
        go_wp2_with fail
        refine (lexBytesV (St.not (St.zero.put 10)) 1 _).mono ?_
        rintro e w9 ⟨rfl, hb9⟩
        have HZ9 := Lib.hid (HZ2.out.next hb9)
        have hB9 : Below w.heap.size w w9 := hB2.trans (hb9.mono hB2.size)
        obtain ⟨z0, z1, z2, z3, z4, z5, z6, z7, z8⟩ := HZ9.out.cells
        obtain ⟨y0, y1, y2, y3, y4, y5, y6, y7, y8⟩ := HZ9.out.frees
        clear hb9
        go_wp2_with fail
        exact bodyPost_ret (results_row_tmp Try.results22 _ _ w.heap.size 57 _ (0, 0) _ rfl (HZ9.out.store (setW (St.not (St.zero.put 10))) 0) Try.underlying57 rfl (by kernel_rfl)) rfl ⟨by rw [HV.out]; rfl, below_stW hB9 (Nat.le_refl _) (setW (St.not (St.zero.put 10))) 0⟩
      · have e46i : ((b : Int) == 46) = false := beq_eq_false_iff_ne.2 (by omega)
        have e46n : (b == 46) = false := beq_eq_false_iff_ne.2 (by omega)
        have e46j : ((b : Int) != 46) = true := by rw [bne, e46i]; rfl
        have e46m : (b != 46) = true := by rw [bne, e46n]; rfl
        by_cases b123 : b = 123
        · have e123i : ((b : Int) == 123) = true := by rw [beq_iff_eq]; omega
          have e123n : (b == 123) = true := by rw [beq_iff_eq]; omega
          have e123j : ((b : Int) != 123) = false := by rw [bne, e123i]; rfl
          have e123m : (b != 123) = false := by rw [bne, e123n]; rfl
          obtain ⟨x, n, hcn⟩ : ∃ (x : Wd) (n : Int), bracesS t 0 = (x, n) := ⟨_, _, rfl⟩
          have HK := Lib.hid hcn
          have HV : Hid (wordP t = (x, n)) := Lib.hid (by unfold wordP; rw [HB.out, if_neg (by omega), if_neg (by omega), if_neg (by omega), if_pos (by omega)]; rw [HK.out])
          have HB2 := Lib.hid b123
          clear hcn b123
          go_enter Try.func22, Try.ntmps22
          go_wp2_with fail
          refine (lexBracesV t hs h0 (by rw [HB.out]; exact HB2.out) x n HK.out _).mono ?_
          rintro e w1 ⟨rfl, hb1⟩
          have HZ1 := Lib.hid ((WdAt.zero w).next hb1)
          have hB1 : Below w.heap.size w w1 := (zw_below w).trans (hb1.mono (zw_below w).size)
          obtain ⟨z0, z1, z2, z3, z4, z5, z6, z7, z8⟩ := HZ1.out.cells
          obtain ⟨y0, y1, y2, y3, y4, y5, y6, y7, y8⟩ := HZ1.out.frees
          clear hb1
          go_wp2_with fail
          exact bodyPost_ret (results_row_tmp Try.results22 _ _ w.heap.size 57 _ (0, 0) _ rfl (HZ1.out.store (x) 0) Try.underlying57 rfl (by kernel_rfl)) rfl ⟨by rw [HV.out]; rfl, below_stW hB1 (Nat.le_refl _) (x) 0⟩
        · have e123i : ((b : Int) == 123) = false := beq_eq_false_iff_ne.2 (by omega)
          have e123n : (b == 123) = false := beq_eq_false_iff_ne.2 (by omega)
          have e123j : ((b : Int) != 123) = true := by rw [bne, e123i]; rfl
          have e123m : (b != 123) = true := by rw [bne, e123n]; rfl
          by_cases b40 : b = 40
          · have e40i : ((b : Int) == 40) = true := by rw [beq_iff_eq]; omega
            have e40n : (b == 40) = true := by rw [beq_iff_eq]; omega
            have e40j : ((b : Int) != 40) = false := by rw [bne, e40i]; rfl
            have e40m : (b != 40) = false := by rw [bne, e40n]; rfl
            obtain ⟨x, n, hcn⟩ : ∃ (x : Wd) (n : Int), openS t 0 = (x, n) := ⟨_, _, rfl⟩
            have HK := Lib.hid hcn
            have HV : Hid (wordP t = (x, n)) := Lib.hid (by unfold wordP; rw [HB.out, if_neg (by omega), if_neg (by omega), if_neg (by omega), if_neg (by omega), if_pos (by omega)]; rw [HK.out])
            clear hcn b40
            go_enter Try.func22, Try.ntmps22
            go_wp2_with fail
            refine (lexOpenV t x n HK.out _).mono ?_
            rintro e w1 ⟨rfl, hb1⟩
            have HZ1 := Lib.hid ((WdAt.zero w).next hb1)
            have hB1 : Below w.heap.size w w1 := (zw_below w).trans (hb1.mono (zw_below w).size)
            obtain ⟨z0, z1, z2, z3, z4, z5, z6, z7, z8⟩ := HZ1.out.cells
            obtain ⟨y0, y1, y2, y3, y4, y5, y6, y7, y8⟩ := HZ1.out.frees
            clear hb1
            go_wp2_with fail
            exact bodyPost_ret (results_row_tmp Try.results22 _ _ w.heap.size 57 _ (0, 0) _ rfl (HZ1.out.store (x) 0) Try.underlying57 rfl (by kernel_rfl)) rfl ⟨by rw [HV.out]; rfl, below_stW hB1 (Nat.le_refl _) (x) 0⟩
          · have e40i : ((b : Int) == 40) = false := beq_eq_false_iff_ne.2 (by omega)
            have e40n : (b == 40) = false := beq_eq_false_iff_ne.2 (by omega)
            have e40j : ((b : Int) != 40) = true := by rw [bne, e40i]; rfl
            have e40m : (b != 40) = true := by rw [bne, e40n]; rfl
            by_cases b93 : b = 93
            · have e93i : ((b : Int) == 93) = true := by rw [beq_iff_eq]; omega
              have e93n : (b == 93) = true := by rw [beq_iff_eq]; omega
              have e93j : ((b : Int) != 93) = false := by rw [bne, e93i]; rfl
              have e93m : (b != 93) = false := by rw [bne, e93n]; rfl
              have HV : Hid (wordP t = (wd0, 0)) := Lib.hid (by unfold wordP; rw [HB.out, if_neg (by omega), if_neg (by omega), if_neg (by omega), if_neg (by omega), if_neg (by omega), if_pos (by omega)])
              clear b93
              go_enter Try.func22, Try.ntmps22
              go_wp2_with fail
              refine bodyPost_ret (v := .tuple #[.agg (wdCells wd0 0), .int .i64 0]) (by simp [results, Try.results22, go_sem, wdCells, wd0, emptyC]) rfl ⟨txt_wd HV.out, ?_⟩
              repeat (first | exact Below.refl _ _ | refine Below.drew ?_ | refine Below.alloc ?_ (by simp; try omega) _)
            · have e93i : ((b : Int) == 93) = false := beq_eq_false_iff_ne.2 (by omega)
              have e93n : (b == 93) = false := beq_eq_false_iff_ne.2 (by omega)
              have e93j : ((b : Int) != 93) = true := by rw [bne, e93i]; rfl
              have e93m : (b != 93) = true := by rw [bne, e93n]; rfl
              by_cases b125 : b = 125
              · have e125i : ((b : Int) == 125) = true := by rw [beq_iff_eq]; omega
                have e125n : (b == 125) = true := by rw [beq_iff_eq]; omega
                have e125j : ((b : Int) != 125) = false := by rw [bne, e125i]; rfl
                have e125m : (b != 125) = false := by rw [bne, e125n]; rfl
                have HV : Hid (wordP t = (wd0, 0)) := Lib.hid (by unfold wordP; rw [HB.out, if_neg (by omega), if_neg (by omega), if_neg (by omega), if_neg (by omega), if_neg (by omega), if_pos (by omega)])
                clear b125
                go_enter Try.func22, Try.ntmps22
                go_wp2_with fail
                refine bodyPost_ret (v := .tuple #[.agg (wdCells wd0 0), .int .i64 0]) (by simp [results, Try.results22, go_sem, wdCells, wd0, emptyC]) rfl ⟨txt_wd HV.out, ?_⟩
                repeat (first | exact Below.refl _ _ | refine Below.drew ?_ | refine Below.alloc ?_ (by simp; try omega) _)
              · have e125i : ((b : Int) == 125) = false := beq_eq_false_iff_ne.2 (by omega)
                have e125n : (b == 125) = false := beq_eq_false_iff_ne.2 (by omega)
                have e125j : ((b : Int) != 125) = true := by rw [bne, e125i]; rfl
                have e125m : (b != 125) = true := by rw [bne, e125n]; rfl
                obtain ⟨k, hk0⟩ : ∃ k, lexSignS b = k := ⟨_, rfl⟩
                have HS := Lib.hid hk0
                clear hk0
                by_cases hk : k = 0
                · have HV : Hid (wordP t = (setW (St.zero.put b), 1)) := Lib.hid (by unfold wordP; rw [HB.out, if_neg (by omega), if_neg (by omega), if_neg (by omega), if_neg (by omega), if_neg (by omega), if_neg (by omega), HS.out, if_pos hk])
                  obtain rfl := hk
                  go_enter Try.func22, Try.ntmps22
                  go_wp2_with fail
                  refine (lexSignV b hbl 0 HS.out _).mono ?_
                  rintro e w0 ⟨rfl, rfl⟩
                  go_wp2_with fail
                  refine (setOf1 b (by omega) _ (w.heap.size + 1) (by
                    have h := At.new (zw w) 5 #[.int .u8 (b : Nat)]
                    rw [show (zw w).heap.size = w.heap.size + 1 from zw_size w] at h
                    exact h)).mono ?_
                  rintro e w1 ⟨rfl, hb1⟩
                  have HZ1 := Lib.hid (((WdAt.zero w).alloc (.cells #[.int .u8 (b : Nat)] 5)).next hb1)
                  have hB1 : Below w.heap.size w w1 := ((zw_below w).alloc (zw_below w).size _).trans (hb1.mono ((zw_below w).alloc (zw_below w).size _).size)
                  clear hb1
                  go_wp2_with fail
                  refine (lexBytesV (St.zero.put b) 1 _).mono ?_
                  rintro e w9 ⟨rfl, hb9⟩
                  have HZ9 := Lib.hid (HZ1.out.next hb9)
                  have hB9 : Below w.heap.size w w9 := hB1.trans (hb9.mono hB1.size)
                  obtain ⟨z0, z1, z2, z3, z4, z5, z6, z7, z8⟩ := HZ9.out.cells
                  obtain ⟨y0, y1, y2, y3, y4, y5, y6, y7, y8⟩ := HZ9.out.frees
                  clear hb9
                  go_wp2_with fail
                  exact bodyPost_ret (results_row_tmp Try.results22 _ _ w.heap.size 57 _ (0, 0) _ rfl (HZ9.out.store (setW (St.zero.put b)) 0) Try.underlying57 rfl (by kernel_rfl)) rfl ⟨by rw [HV.out]; rfl, below_stW hB9 (Nat.le_refl _) (setW (St.zero.put b)) 0⟩
                · have HV : Hid (wordP t = (kindW k, 1)) := Lib.hid (by unfold wordP; rw [HB.out, if_neg (by omega), if_neg (by omega), if_neg (by omega), if_neg (by omega), if_neg (by omega), if_neg (by omega), HS.out, if_neg hk])
                  have k1 : (k == 0) = false := beq_eq_false_iff_ne.2 hk
                  have k2 : (k != 0) = true := by rw [bne, k1]; rfl
                  clear hk
                  go_enter Try.func22, Try.ntmps22
                  go_wp2_with fail
                  refine (lexSignV b hbl k HS.out _).mono ?_
                  rintro e w0 ⟨rfl, rfl⟩
                  go_wp2_with fail
                  refine bodyPost_ret (v := .tuple #[.agg (wdCells (kindW k) 0), .int .i64 1]) (by simp [results, Try.results22, go_sem, wdCells, kindW, emptyC]) rfl ⟨txt_wd HV.out, ?_⟩
                  repeat (first | exact Below.refl _ _ | refine Below.drew ?_ | refine Below.alloc ?_ (by simp; try omega) _)
end Go.Proofs.Ytkbfoelffeocmaa
