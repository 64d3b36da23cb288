/- What the reference's class answers where a ^ stands ahead, and at the text's end. -/
import Derived.Test.YtdcldhkpmihahaaTextF
namespace Go.Proofs.Ytdcldhkpmihahaa
open Go.RowKit
set_option linter.unusedSimpArgs false
set_option linter.unusedVariables false

theorem bits_not' (a : Nat) (ha : U64 a) : bits .xor .u64 (a : Int) 18446744073709551615 = ((M64 - a : Nat) : Int) := by
  unfold U64 at ha
  show IntKind.u64.wrap ((BitVec.ofInt 64 (a : Int) ^^^ BitVec.ofInt 64 18446744073709551615).toNat : Int) = _
  have h1 : BitVec.ofInt 64 18446744073709551615 = BitVec.allOnes 64 := by decide
  rw [h1, BitVec.xor_allOnes, BitVec.toNat_not, ofInt_u64 a (by omega), IntKind.wrap_u64]
  unfold M64
  omega
/-- The first q words are turned. -/
def notTo (c : St) : Nat → St
  | 0 => c
  | 1 => ⟨M64 - c.w0, c.w1, c.w2, c.w3⟩
  | 2 => ⟨M64 - c.w0, M64 - c.w1, c.w2, c.w3⟩
  | 3 => ⟨M64 - c.w0, M64 - c.w1, M64 - c.w2, c.w3⟩
  | _ => c.not

set_option maxRecDepth 100000 in
set_option maxHeartbeats 8000000 in
theorem refClassPast (s : ByteArray) (p : Nat) (hs : s.size ≤ 20000) (hp1 : p + 1 = s.size) (w : World) :
    Calls Try.prog 20 #[.string s, .int .i64 p] w fun e w' => e = .returned (.tuple #[.agg (clsWords (classS s p).1), .int .i64 (classS s p).2]) ∧ Below w.heap.size w w' := by
  have hnj : ¬ (p + 1 < s.size ∧ bt s (p + 1) = 94) := by omega
  have HV : Hid (classS s p = (emptyC, 0)) := Lib.hid (cls_past (j := p + 1) (k := p + 1) (c := emptyC) (by rw [if_neg hnj]) (classFrom_end (Or.inl (by omega))) (by omega))
  have d0 : decide ((p : Int) + 1 < (s.size : Int)) = false := txt_f (by omega)
  have d1 : decide ((s.size : Int) ≤ (p : Int) + 1) = true := txt_t (by omega)
  clear hnj
  go_enter Try.func20, Try.ntmps20
  go_wp2_with fail
  refine wp_loop_rounds 1 ?_
  rw [rounds_succ]
  go_wp2_with fail
  refine bodyPost_ret (v := .tuple #[.agg (clsWords emptyC), .int .i64 0]) (by simp [results, Try.results20, go_sem, clsWords, emptyC]) rfl ⟨by rw [HV.out], ?_⟩
  repeat (first | exact Below.refl _ _ | refine Below.drew ?_ | refine Below.alloc ?_ (by simp; try omega) _)

set_option maxRecDepth 100000 in
set_option maxHeartbeats 8000000 in
theorem refClassNot (s : ByteArray) (p : Nat) (hs : s.size ≤ 20000) (hp1 : p + 1 < s.size) (b1 : Nat) (hb1 : (s[p + 1]'hp1).toNat = b1) (hn1 : b1 = 94) (w : World) :
    Calls Try.prog 20 #[.string s, .int .i64 p] w fun e w' => e = .returned (.tuple #[.agg (clsWords (classS s p).1), .int .i64 (classS s p).2]) ∧ Below w.heap.size w w' := by
  have hl1 : b1 < 256 := by rw [← hb1]; exact UInt8.toNat_lt _
  have HJ : Hid (p + 1 < s.size ∧ bt s (p + 1) = 94) := Lib.hid ⟨hp1, by rw [← bt_is hp1, hb1]; exact hn1⟩
  have HJ2 : Hid (p + 2 = if p + 1 < s.size ∧ bt s (p + 1) = 94 then p + 2 else p + 1) := Lib.hid (by rw [if_pos HJ.out])
  have d0 : decide ((p : Int) + 1 < (s.size : Int)) = true := txt_t (by omega)
  have e1 : ((b1 : Int) == 94) = true := by rw [beq_iff_eq]; omega
  have e2 : (b1 == 94) = true := by rw [beq_iff_eq]; exact hn1
  obtain ⟨R, hR⟩ : ∃ R, classFrom s (s.size + 1) (p + 2) emptyC = R := ⟨_, rfl⟩
  have HR := Lib.hid hR
  clear hR
  go_enter Try.func20, Try.ntmps20
  go_wp2_with fail
  go_loopw [6] (fun i wr => ∃ (k : Nat) (c : St) (f : Nat), p < k ∧ k ≤ s.size ∧ i = .int .i64 k ∧ c.Ok ∧ s.size < k + f ∧ Hid (classFrom s f k c = R) ∧ SetAt wr (w.heap.size + 1) 29 c ∧ SetAt wr w.heap.size 29 emptyC ∧ Below w.heap.size w wr) (fun i _ => s.size - (intOf i).toNat)
  case atStart =>
    refine ⟨p + 2, emptyC, s.size + 1, by omega, by omega, by go_num, emptyC_ok, by omega, HR, ?_, ?_, ?_⟩
    · have h := SetAt.new (w.alloc (.cells #[.int .u64 0, .int .u64 0, .int .u64 0, .int .u64 0] 29)) 29 emptyC
      simp only [World.size_alloc] at h
      exact h
    · exact (SetAt.new _ _ emptyC).alloc _
    · exact ((Below.refl _ _).alloc (Nat.le_refl _) _).alloc (by simp) _
  case round =>
    obtain ⟨k, c, f0, hpk, hk, rfl, hc, hf0, HF, hA, hZ, hB⟩ := hrel
    obtain ⟨f, rfl⟩ : ∃ f, f0 = f + 1 := ⟨f0 - 1, by omega⟩
    by_cases hlt : k < s.size
    · obtain ⟨b, hb⟩ : ∃ b, (s[k]'hlt).toNat = b := ⟨_, rfl⟩
      have hl : b < 256 := by rw [← hb]; exact UInt8.toNat_lt _
      have HBt : Hid (bt s k = b) := Lib.hid (by rw [← bt_is hlt]; exact hb)
      by_cases hb93 : b = 93
      · have HV : Hid (classS s p = (c.not, (k : Int) + 1 - p)) := Lib.hid (cls_not HJ.out (by rw [HR.out, ← HF.out, classFrom_end (Or.inr (by rw [HBt.out]; exact hb93))]) (by omega))
        have g1 : ((b : Int) == 93) = true := by rw [beq_iff_eq]; omega
        have g2 : (b == 93) = true := by rw [beq_iff_eq]; omega
        have g3 : ((b : Int) != 93) = false := by rw [bne, g1]; rfl
        have g4 : (b != 93) = false := by rw [bne, g2]; rfl
        have HA := Lib.hid hA
        have HZ := Lib.hid hZ
        clear hA hZ
        go_wp2_with fail
        go_loopw [101] (fun x wr => ∃ q : Nat, q ≤ 4 ∧ x = .int .i64 q ∧ SetAt wr (w.heap.size + 1) 29 (notTo c q) ∧ SetAt wr w.heap.size 29 emptyC ∧ Below w.heap.size w wr) (fun x _ => 4 - (intOf x).toNat)
        case atStart => exact ⟨0, by omega, rfl, HA.out, HZ.out, hB⟩
        case round =>
          obtain ⟨q, hq, rfl, ha1, hz1, hb1'⟩ := hrel
          have hq5 : q = 0 ∨ q = 1 ∨ q = 2 ∨ q = 3 ∨ q = 4 := by omega
          rcases hq5 with rfl | rfl | rfl | rfl | rfl
          · have bx := bits_not' c.w0 hc.o0
            obtain ⟨x0, x1, x2, x3⟩ := ha1.cells
            obtain ⟨y0, y1, y2, y3⟩ := ha1.frees
            have HA1 := Lib.hid ha1
            have HZ1 := Lib.hid hz1
            clear ha1 hz1
            simp only [notTo] at x0 x1 x2 x3
            go_wp2_with fail
            exact ⟨⟨1, by omega, by go_num, At.set HA1.out 0 _, At.other HZ1.out (by show _ ≠ w.heap.size + 1; omega) _, hb1'.setCell (Nat.le_succ _) _⟩, by simp [intOf]⟩
          · have bx := bits_not' c.w1 hc.o1
            obtain ⟨x0, x1, x2, x3⟩ := ha1.cells
            obtain ⟨y0, y1, y2, y3⟩ := ha1.frees
            have HA1 := Lib.hid ha1
            have HZ1 := Lib.hid hz1
            clear ha1 hz1
            simp only [notTo] at x0 x1 x2 x3
            go_wp2_with fail
            exact ⟨⟨2, by omega, by go_num, At.set HA1.out 1 _, At.other HZ1.out (by show _ ≠ w.heap.size + 1; omega) _, hb1'.setCell (Nat.le_succ _) _⟩, by simp [intOf]⟩
          · have bx := bits_not' c.w2 hc.o2
            obtain ⟨x0, x1, x2, x3⟩ := ha1.cells
            obtain ⟨y0, y1, y2, y3⟩ := ha1.frees
            have HA1 := Lib.hid ha1
            have HZ1 := Lib.hid hz1
            clear ha1 hz1
            simp only [notTo] at x0 x1 x2 x3
            go_wp2_with fail
            exact ⟨⟨3, by omega, by go_num, At.set HA1.out 2 _, At.other HZ1.out (by show _ ≠ w.heap.size + 1; omega) _, hb1'.setCell (Nat.le_succ _) _⟩, by simp [intOf]⟩
          · have bx := bits_not' c.w3 hc.o3
            obtain ⟨x0, x1, x2, x3⟩ := ha1.cells
            obtain ⟨y0, y1, y2, y3⟩ := ha1.frees
            have HA1 := Lib.hid ha1
            have HZ1 := Lib.hid hz1
            clear ha1 hz1
            simp only [notTo] at x0 x1 x2 x3
            go_wp2_with fail
            exact ⟨⟨4, by omega, by go_num, At.set HA1.out 3 _, At.other HZ1.out (by show _ ≠ w.heap.size + 1; omega) _, hb1'.setCell (Nat.le_succ _) _⟩, by simp [intOf]⟩
          · obtain ⟨x0, x1, x2, x3⟩ := ha1.cells
            obtain ⟨y0, y1, y2, y3⟩ := hz1.frees
            obtain ⟨z0, z1, z2, z3⟩ := hz1.cells
            have HZ1 := Lib.hid hz1
            clear ha1 hz1
            go_wp2_with fail
            exact bodyPost_ret (results_row_tmp Try.results20 _ _ w.heap.size 29 _ (0, 0) _ rfl (HZ1.out.store c.not) Try.underlying29 rfl (by kernel_rfl)) rfl ⟨by rw [HV.out]; rfl, below_store hb1' (Nat.le_refl _) c.not⟩
      · have HN : Hid (¬ (s.size ≤ k ∨ bt s k = 93)) := Lib.hid (by rw [HBt.out]; omega)
        have g1 : ((b : Int) == 93) = false := beq_eq_false_iff_ne.2 (by omega)
        have g2 : (b == 93) = false := beq_eq_false_iff_ne.2 hb93
        have g3 : ((b : Int) != 93) = true := by rw [bne, g1]; rfl
        have g4 : (b != 93) = true := by rw [bne, g2]; rfl
        obtain ⟨a, n, ha, hal, hnl⟩ := char_nat s k ownC
        have HCh := Lib.hid ha
        have HA := Lib.hid hA
        have HZ := Lib.hid hZ
        clear hA hZ
        by_cases hn0 : n = 0
        · subst hn0
          have HV : Hid (classS s p = (emptyC, 0)) := Lib.hid (cls_bad HJ2.out (by rw [HR.out, ← HF.out, classFrom_bad HN.out HCh.out]))
          clear ha
          obtain ⟨y0, y1, y2, y3⟩ := HZ.out.frees
          obtain ⟨z0, z1, z2, z3⟩ := HZ.out.cells
          go_wp2_with fail
          refine (refCharV s k ownC hs (by omega) (by decide) a 0 HCh.out _).mono ?_
          rintro e w1 ⟨rfl, q, rfl⟩
          go_wp2_with fail
          exact bodyPost_ret (results_row_tmp Try.results20 _ _ w.heap.size 29 _ (0, 0) _ rfl ((HZ.out.drewN _).store emptyC) Try.underlying29 rfl (by kernel_rfl)) rfl ⟨by rw [HV.out]; rfl, below_store (below_drew hB _) (Nat.le_refl _) emptyC⟩
        · have hin : k + n ≤ s.size := char_in HCh.out (by omega)
          clear ha
          have m1 : ((n : Int) == 0) = false := beq_eq_false_iff_ne.2 (by omega)
          have m2 : (n == 0) = false := beq_eq_false_iff_ne.2 hn0
          have wa : IntKind.i64.wrap (a : Int) = (a : Int) := by rw [IntKind.wrap_i64]; omega
          obtain ⟨j, hj⟩ : ∃ j, j = k + n := ⟨_, rfl⟩
          have hj' : (k : Int) + (n : Int) = (j : Int) := by omega
          have HJn := Lib.hid hj
          by_cases h2 : j < s.size
          · obtain ⟨b2, hb2⟩ : ∃ b, (s[j]'h2).toNat = b := ⟨_, rfl⟩
            have hl2 : b2 < 256 := by rw [← hb2]; exact UInt8.toNat_lt _
            have HB2 : Hid (bt s (k + n) = b2) := Lib.hid (by rw [← hj, ← bt_is h2]; exact hb2)
            have t1 : decide ((j : Int) < (s.size : Int)) = true := txt_t (by omega)
            by_cases h45 : b2 = 45
            · have u1 : ((b2 : Int) == 45) = true := by rw [beq_iff_eq]; omega
              have u2 : (b2 == 45) = true := by rw [beq_iff_eq]; omega
              have HD : Hid (k + n < s.size ∧ bt s (k + n) = 45) := Lib.hid ⟨by omega, by rw [HB2.out]; exact h45⟩
              obtain ⟨b', m, hb', hbl, hml⟩ := char_nat s (k + n + 1) ownC
              have HCh2 : Hid (charS s (j + 1) ownC = ((b' : Int), (m : Int))) := Lib.hid (by rw [HJn.out]; exact hb')
              have HCh3 := Lib.hid hb'
              by_cases hm0 : m = 0
              · subst hm0
                have HV : Hid (classS s p = (emptyC, 0)) := Lib.hid (cls_bad HJ2.out (by rw [HR.out, ← HF.out, classFrom_bad2 HN.out HCh.out (by omega) HD.out HCh3.out (Or.inl rfl)]))
                clear hb' hj
                obtain ⟨y0, y1, y2, y3⟩ := HZ.out.frees
                obtain ⟨z0, z1, z2, z3⟩ := HZ.out.cells
                go_wp2_with fail
                refine (refCharV s k ownC hs (by omega) (by decide) a n HCh.out _).mono ?_
                rintro e w1 ⟨rfl, q, rfl⟩
                go_wp2_with fail
                refine (refCharV s (j + 1) ownC hs (by omega) (by decide) b' 0 HCh2.out _).mono ?_
                rintro e w1 ⟨rfl, q2, rfl⟩
                go_wp2_with fail
                exact bodyPost_ret (results_row_tmp Try.results20 _ _ w.heap.size 29 _ (0, 0) _ rfl ((HZ.out.drewN (q + q2)).store emptyC) Try.underlying29 rfl (by kernel_rfl)) rfl ⟨by rw [HV.out]; rfl, below_store (below_drew hB (q + q2)) (Nat.le_refl _) emptyC⟩
              · have hin2 : k + n + 1 + m ≤ s.size := char_in HCh3.out (by omega)
                have v1 : ((m : Int) == 0) = false := beq_eq_false_iff_ne.2 (by omega)
                have v2 : (m == 0) = false := beq_eq_false_iff_ne.2 hm0
                by_cases hab : (b' : Int) < (a : Int)
                · have x1 := txt_t hab
                  have x1n := txt_t (show b' < a by omega)
                  have HV : Hid (classS s p = (emptyC, 0)) := Lib.hid (cls_bad HJ2.out (by rw [HR.out, ← HF.out, classFrom_bad2 HN.out HCh.out (by omega) HD.out HCh3.out (Or.inr hab)]))
                  clear hb' hj
                  obtain ⟨y0, y1, y2, y3⟩ := HZ.out.frees
                  obtain ⟨z0, z1, z2, z3⟩ := HZ.out.cells
                  go_wp2_with fail
                  refine (refCharV s k ownC hs (by omega) (by decide) a n HCh.out _).mono ?_
                  rintro e w1 ⟨rfl, q, rfl⟩
                  go_wp2_with fail
                  refine (refCharV s (j + 1) ownC hs (by omega) (by decide) b' m HCh2.out _).mono ?_
                  rintro e w1 ⟨rfl, q2, rfl⟩
                  go_wp2_with fail
                  exact bodyPost_ret (results_row_tmp Try.results20 _ _ w.heap.size 29 _ (0, 0) _ rfl ((HZ.out.drewN (q + q2)).store emptyC) Try.underlying29 rfl (by kernel_rfl)) rfl ⟨by rw [HV.out]; rfl, below_store (below_drew hB (q + q2)) (Nat.le_refl _) emptyC⟩
                · have x1 := txt_f hab
                  have x1n := txt_f (show ¬ b' < a by omega)
                  have wb : IntKind.i64.wrap (b' : Int) = (b' : Int) := by rw [IntKind.wrap_i64]; omega
                  have HF2 : Hid (classFrom s f (j + 1 + m) (puts c a (b' + 1 - a)) = R) := Lib.hid (by rw [HJn.out, ← HF.out, classFrom_two HN.out HCh.out (by omega) HD.out HCh3.out (by omega) (by omega)])
                  clear hb' hj
                  go_wp2_with fail
                  refine (refCharV s k ownC hs (by omega) (by decide) a n HCh.out _).mono ?_
                  rintro e w1 ⟨rfl, q, rfl⟩
                  go_wp2_with fail
                  refine (refCharV s (j + 1) ownC hs (by omega) (by decide) b' m HCh2.out _).mono ?_
                  rintro e w1 ⟨rfl, q2, rfl⟩
                  go_wp2_with fail
                  go_loopw [14] (fun x wr => ∃ m : Nat, m ≤ b' + 1 - a ∧ x = .int .i64 ((a + m : Nat) : Int) ∧ SetAt wr (w.heap.size + 1) 29 (puts c a m) ∧ SetAt wr w.heap.size 29 emptyC ∧ Below w.heap.size w wr) (fun x _ => 600 - (intOf x).toNat)
                  case atStart => exact ⟨0, Nat.zero_le _, by go_num, HA.out.drewN (q + q2), HZ.out.drewN (q + q2), below_drew hB (q + q2)⟩
                  case round =>
                    obtain ⟨m, hm, rfl, hs1, hz1, hB1⟩ := hrel
                    obtain ⟨x, hx⟩ : ∃ x : Nat, x = a + m := ⟨_, rfl⟩
                    rw [← hx]
                    have HX := Lib.hid hx
                    by_cases hlt : m < b' + 1 - a
                    · have hx256 : x < 256 := by omega
                      have hxhi : x ≤ b' := by omega
                      clear hx
                      obtain ⟨c0, c1, c2, c3⟩ := hs1.cells
                      have HS := Lib.hid hs1
                      have HZ := Lib.hid hz1
                      clear hs1 hz1
                      go_wp2_with fail
                      refine (refPut (puts c a m) (puts_ok hc a m) x hx256 _).mono ?_
                      rintro e w1 ⟨rfl, hb1⟩
                      have HS1 := Lib.hid (HS.out.next hb1)
                      have HZ1 := Lib.hid (HZ.out.next hb1)
                      obtain ⟨d0, d1, d2, d3⟩ := HS1.out.cells
                      obtain ⟨f0, f1, f2, f3⟩ := HS1.out.frees
                      have hB2 := hB1.trans (hb1.mono hB1.size)
                      clear c0 c1 c2 c3
                      go_wp2_with fail
                      exact ⟨⟨m + 1, by omega, by rw [show ((a + (m + 1) : Nat) : Int) = (x : Int) + 1 from by have := HX.out; omega], by show SetAt _ _ _ ((puts c a m).put (a + m)); rw [← HX.out]; exact HS1.out.store _, HZ1.out.other (by omega) _, below_store hB2 (Nat.le_succ _) _⟩, by simp [intOf]; omega⟩
                    · have hxhi : b' < x := by omega
                      obtain rfl : m = b' + 1 - a := by omega
                      clear hx
                      have HS := Lib.hid hs1
                      have HZ := Lib.hid hz1
                      clear hs1 hz1
                      go_wp2_with fail
                      exact ⟨⟨j + 1 + m, puts c a (b' + 1 - a), f, by omega, by omega, by go_num, puts_ok hc _ _, by omega, HF2, HS.out, HZ.out, hB1⟩, by simp [intOf]; omega⟩
            · have u1 : ((b2 : Int) == 45) = false := beq_eq_false_iff_ne.2 (by omega)
              have u2 : (b2 == 45) = false := beq_eq_false_iff_ne.2 h45
              have HF2 : Hid (classFrom s f j (puts c a (a + 1 - a)) = R) := Lib.hid (by rw [HJn.out, show a + 1 - a = 1 by omega, ← HF.out, classFrom_one HN.out HCh.out (by omega) (by rw [HB2.out]; exact fun x => h45 x.2)])
              clear hj
              go_wp2_with fail
              refine (refCharV s k ownC hs (by omega) (by decide) a n HCh.out _).mono ?_
              rintro e w1 ⟨rfl, q, rfl⟩
              go_wp2_with fail
              go_loopw [14] (fun x wr => ∃ m : Nat, m ≤ a + 1 - a ∧ x = .int .i64 ((a + m : Nat) : Int) ∧ SetAt wr (w.heap.size + 1) 29 (puts c a m) ∧ SetAt wr w.heap.size 29 emptyC ∧ Below w.heap.size w wr) (fun x _ => 600 - (intOf x).toNat)
              case atStart => exact ⟨0, Nat.zero_le _, by go_num, HA.out.drewN q, HZ.out.drewN q, below_drew hB q⟩
              case round =>
                obtain ⟨m, hm, rfl, hs1, hz1, hB1⟩ := hrel
                obtain ⟨x, hx⟩ : ∃ x : Nat, x = a + m := ⟨_, rfl⟩
                rw [← hx]
                have HX := Lib.hid hx
                by_cases hlt : m < a + 1 - a
                · have hx256 : x < 256 := by omega
                  have hxhi : x ≤ a := by omega
                  clear hx
                  obtain ⟨c0, c1, c2, c3⟩ := hs1.cells
                  have HS := Lib.hid hs1
                  have HZ := Lib.hid hz1
                  clear hs1 hz1
                  go_wp2_with fail
                  refine (refPut (puts c a m) (puts_ok hc a m) x hx256 _).mono ?_
                  rintro e w1 ⟨rfl, hb1⟩
                  have HS1 := Lib.hid (HS.out.next hb1)
                  have HZ1 := Lib.hid (HZ.out.next hb1)
                  obtain ⟨d0, d1, d2, d3⟩ := HS1.out.cells
                  obtain ⟨f0, f1, f2, f3⟩ := HS1.out.frees
                  have hB2 := hB1.trans (hb1.mono hB1.size)
                  clear c0 c1 c2 c3
                  go_wp2_with fail
                  exact ⟨⟨m + 1, by omega, by rw [show ((a + (m + 1) : Nat) : Int) = (x : Int) + 1 from by have := HX.out; omega], by show SetAt _ _ _ ((puts c a m).put (a + m)); rw [← HX.out]; exact HS1.out.store _, HZ1.out.other (by omega) _, below_store hB2 (Nat.le_succ _) _⟩, by simp [intOf]; omega⟩
                · have hxhi : a < x := by omega
                  obtain rfl : m = a + 1 - a := by omega
                  clear hx
                  have HS := Lib.hid hs1
                  have HZ := Lib.hid hz1
                  clear hs1 hz1
                  go_wp2_with fail
                  exact ⟨⟨j, puts c a (a + 1 - a), f, by omega, by omega, by go_num, puts_ok hc _ _, by omega, HF2, HS.out, HZ.out, hB1⟩, by simp [intOf]; omega⟩
          · have t1 : decide ((j : Int) < (s.size : Int)) = false := txt_f (by omega)
            have HF2 : Hid (classFrom s f j (puts c a (a + 1 - a)) = R) := Lib.hid (by rw [HJn.out, show a + 1 - a = 1 by omega, ← HF.out, classFrom_one HN.out HCh.out (by omega) (fun x => h2 (by omega))])
            clear hj
            go_wp2_with fail
            refine (refCharV s k ownC hs (by omega) (by decide) a n HCh.out _).mono ?_
            rintro e w1 ⟨rfl, q, rfl⟩
            go_wp2_with fail
            go_loopw [14] (fun x wr => ∃ m : Nat, m ≤ a + 1 - a ∧ x = .int .i64 ((a + m : Nat) : Int) ∧ SetAt wr (w.heap.size + 1) 29 (puts c a m) ∧ SetAt wr w.heap.size 29 emptyC ∧ Below w.heap.size w wr) (fun x _ => 600 - (intOf x).toNat)
            case atStart => exact ⟨0, Nat.zero_le _, by go_num, HA.out.drewN q, HZ.out.drewN q, below_drew hB q⟩
            case round =>
              obtain ⟨m, hm, rfl, hs1, hz1, hB1⟩ := hrel
              obtain ⟨x, hx⟩ : ∃ x : Nat, x = a + m := ⟨_, rfl⟩
              rw [← hx]
              have HX := Lib.hid hx
              by_cases hlt : m < a + 1 - a
              · have hx256 : x < 256 := by omega
                have hxhi : x ≤ a := by omega
                clear hx
                obtain ⟨c0, c1, c2, c3⟩ := hs1.cells
                have HS := Lib.hid hs1
                have HZ := Lib.hid hz1
                clear hs1 hz1
                go_wp2_with fail
                refine (refPut (puts c a m) (puts_ok hc a m) x hx256 _).mono ?_
                rintro e w1 ⟨rfl, hb1⟩
                have HS1 := Lib.hid (HS.out.next hb1)
                have HZ1 := Lib.hid (HZ.out.next hb1)
                obtain ⟨d0, d1, d2, d3⟩ := HS1.out.cells
                obtain ⟨f0, f1, f2, f3⟩ := HS1.out.frees
                have hB2 := hB1.trans (hb1.mono hB1.size)
                clear c0 c1 c2 c3
                go_wp2_with fail
                exact ⟨⟨m + 1, by omega, by rw [show ((a + (m + 1) : Nat) : Int) = (x : Int) + 1 from by have := HX.out; omega], by show SetAt _ _ _ ((puts c a m).put (a + m)); rw [← HX.out]; exact HS1.out.store _, HZ1.out.other (by omega) _, below_store hB2 (Nat.le_succ _) _⟩, by simp [intOf]; omega⟩
              · have hxhi : a < x := by omega
                obtain rfl : m = a + 1 - a := by omega
                clear hx
                have HS := Lib.hid hs1
                have HZ := Lib.hid hz1
                clear hs1 hz1
                go_wp2_with fail
                exact ⟨⟨j, puts c a (a + 1 - a), f, by omega, by omega, by go_num, puts_ok hc _ _, by omega, HF2, HS.out, HZ.out, hB1⟩, by simp [intOf]; omega⟩
    · obtain rfl : k = s.size := by omega
      have HV : Hid (classS s p = (emptyC, 0)) := Lib.hid (cls_past HJ2.out (by rw [HR.out, ← HF.out, classFrom_end (Or.inl (by omega))]) (by omega))
      obtain ⟨y0, y1, y2, y3⟩ := hZ.frees
      obtain ⟨z0, z1, z2, z3⟩ := hZ.cells
      have HA := Lib.hid hA
      have HZ := Lib.hid hZ
      clear hA hZ
      go_wp2_with fail
      exact bodyPost_ret (results_row_tmp Try.results20 _ _ w.heap.size 29 _ (0, 0) _ rfl (HZ.out.store emptyC) Try.underlying29 rfl (by kernel_rfl)) rfl ⟨by rw [HV.out]; rfl, below_store hB (Nat.le_refl _) emptyC⟩

theorem refClass (s : ByteArray) (p : Nat) (hs : s.size ≤ 20000) (hp : p < s.size) (w : World) :
    Calls Try.prog 20 #[.string s, .int .i64 p] w fun e w' => e = .returned (.tuple #[.agg (clsWords (classS s p).1), .int .i64 (classS s p).2]) ∧ Below w.heap.size w w' := by
  by_cases h1 : p + 1 < s.size
  · by_cases h2 : (s[p + 1]'h1).toNat = 94
    · exact refClassNot s p hs h1 _ rfl h2 w
    · exact refClassPlain s p hs h1 _ rfl h2 w
  · exact refClassPast s p hs (by omega) w
end Go.Proofs.Ytdcldhkpmihahaa
