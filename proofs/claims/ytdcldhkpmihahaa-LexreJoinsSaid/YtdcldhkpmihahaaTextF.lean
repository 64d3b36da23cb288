/- What the reference's class answers. -/
import Derived.Test.YtdcldhkpmihahaaTextE
namespace Go.Proofs.Ytdcldhkpmihahaa
open Go.RowKit
set_option linter.unusedSimpArgs false
set_option linter.unusedVariables false

theorem refCharV (s : ByteArray) (p : Nat) (own : ByteArray) (hs : s.size ≤ 20000) (hp : p ≤ 20000) (ho : own.size ≤ 9223372036854775807) (a n : Nat) (h : charS s p own = ((a : Int), (n : Int))) (w : World) :
    Calls Try.prog 24 #[.string s, .int .i64 p, .string own] w fun e w' => e = .returned (.tuple #[.int .u8 a, .int .i64 n]) ∧ ∃ n, w' = w.drewN n := by
  have := refChar s p own hs hp ho w
  rw [h] at this
  exact this
theorem below_drew {B : Nat} {W w : World} (h : Below B W w) (n : Nat) : Below B W (w.drewN n) := ⟨h.os, h.tape, h.output, h.size, h.block⟩
theorem emptyC_ok : emptyC.Ok := ⟨by show U64 0; unfold U64; decide, by show U64 0; unfold U64; decide, by show U64 0; unfold U64; decide, by show U64 0; unfold U64; decide⟩
def clsWords (c : St) : Array Value := #[.int .u64 c.w0, .int .u64 c.w1, .int .u64 c.w2, .int .u64 c.w3]
theorem cls_bad {s : ByteArray} {p j : Nat} (hj : j = if p + 1 < s.size ∧ bt s (p + 1) = 94 then p + 2 else p + 1) (h : classFrom s (s.size + 1) j emptyC = none) : classS s p = (emptyC, 0) := by unfold classS; rw [← hj, h]
theorem cls_past {s : ByteArray} {p j k : Nat} {c : St} (hj : j = if p + 1 < s.size ∧ bt s (p + 1) = 94 then p + 2 else p + 1) (h : classFrom s (s.size + 1) j emptyC = some (c, k)) (hk : s.size ≤ k) : classS s p = (emptyC, 0) := by unfold classS; rw [← hj, h]; dsimp only; rw [if_pos hk]
theorem cls_is {s : ByteArray} {p k : Nat} {c : St} (hn : ¬ (p + 1 < s.size ∧ bt s (p + 1) = 94)) (h : classFrom s (s.size + 1) (p + 1) emptyC = some (c, k)) (hk : ¬ s.size ≤ k) : classS s p = (c, (k : Int) + 1 - p) := by unfold classS; rw [if_neg hn, h]; dsimp only; rw [if_neg hk, if_neg hn]
theorem cls_not {s : ByteArray} {p k : Nat} {c : St} (hn : p + 1 < s.size ∧ bt s (p + 1) = 94) (h : classFrom s (s.size + 1) (p + 2) emptyC = some (c, k)) (hk : ¬ s.size ≤ k) : classS s p = (c.not, (k : Int) + 1 - p) := by unfold classS; rw [if_pos hn, h]; dsimp only; rw [if_neg hk, if_pos hn]

set_option maxRecDepth 100000 in
set_option maxHeartbeats 8000000 in
theorem refClassPlain (s : ByteArray) (p : Nat) (hs : s.size ≤ 20000) (hp1 : p + 1 < s.size) (b1 : Nat) (hb1 : (s[p + 1]'hp1).toNat = b1) (hn1 : ¬ b1 = 94) (w : World) :
    Calls Try.prog 20 #[.string s, .int .i64 p] w fun e w' => e = .returned (.tuple #[.agg (clsWords (classS s p).1), .int .i64 (classS s p).2]) ∧ Below w.heap.size w w' := by
  have hl1 : b1 < 256 := by rw [← hb1]; exact UInt8.toNat_lt _
  have HJ : Hid (¬ (p + 1 < s.size ∧ bt s (p + 1) = 94)) := Lib.hid (by rw [← bt_is hp1, hb1]; omega)
  have HJ2 : Hid (p + 1 = if p + 1 < s.size ∧ bt s (p + 1) = 94 then p + 2 else p + 1) := Lib.hid (by rw [if_neg HJ.out])
  have d0 : decide ((p : Int) + 1 < (s.size : Int)) = true := txt_t (by omega)
  have e1 : ((b1 : Int) == 94) = false := beq_eq_false_iff_ne.2 (by omega)
  have e2 : (b1 == 94) = false := beq_eq_false_iff_ne.2 hn1
  obtain ⟨R, hR⟩ : ∃ R, classFrom s (s.size + 1) (p + 1) emptyC = R := ⟨_, rfl⟩
  have HR := Lib.hid hR
  clear hR
  go_enter Try.func20, Try.ntmps20
  go_wp2_with fail
  go_loopw [6] (fun i wr => ∃ (k : Nat) (c : St) (f : Nat), p < k ∧ k ≤ s.size ∧ i = .int .i64 k ∧ c.Ok ∧ s.size < k + f ∧ Hid (classFrom s f k c = R) ∧ SetAt wr (w.heap.size + 1) 29 c ∧ SetAt wr w.heap.size 29 emptyC ∧ Below w.heap.size w wr) (fun i _ => s.size - (intOf i).toNat)
  case atStart =>
    refine ⟨p + 1, emptyC, s.size + 1, by omega, by omega, by go_num, emptyC_ok, by omega, HR, ?_, ?_, ?_⟩
    · have h := SetAt.new (w.alloc (.cells #[.int .u64 0, .int .u64 0, .int .u64 0, .int .u64 0] 29)) 29 emptyC
      simp only [World.size_alloc] at h
      exact h
    · exact (SetAt.new _ _ emptyC).alloc _
    · exact ((Below.refl _ _).alloc (Nat.le_refl _) _).alloc (by simp) _
  case round =>
    obtain ⟨k, c, f0, hpk, hk, rfl, hc, hf0, HF, hA, hZ, hB⟩ := hrel
    obtain ⟨f, rfl⟩ : ∃ f, f0 = f + 1 := ⟨f0 - 1, by omega⟩
    by_cases hlt : k < s.size
    · obtain ⟨b, hb⟩ : ∃ b, (s[k]'hlt).toNat = b := ⟨_, rfl⟩
      have hl : b < 256 := by rw [← hb]; exact UInt8.toNat_lt _
      have HBt : Hid (bt s k = b) := Lib.hid (by rw [← bt_is hlt]; exact hb)
      by_cases hb93 : b = 93
      · have HV : Hid (classS s p = (c, (k : Int) + 1 - p)) := Lib.hid (cls_is HJ.out (by rw [HR.out, ← HF.out, classFrom_end (Or.inr (by rw [HBt.out]; exact hb93))]) (by omega))
        have g1 : ((b : Int) == 93) = true := by rw [beq_iff_eq]; omega
        have g2 : (b == 93) = true := by rw [beq_iff_eq]; omega
        have g3 : ((b : Int) != 93) = false := by rw [bne, g1]; rfl
        have g4 : (b != 93) = false := by rw [bne, g2]; rfl
        obtain ⟨x0, x1, x2, x3⟩ := hA.cells
        obtain ⟨y0, y1, y2, y3⟩ := hZ.frees
        obtain ⟨z0, z1, z2, z3⟩ := hZ.cells
        have HA := Lib.hid hA
        have HZ := Lib.hid hZ
        clear hA hZ
        go_wp2_with fail
        exact bodyPost_ret (results_row_tmp Try.results20 _ _ w.heap.size 29 _ (0, 0) _ rfl (HZ.out.store c) Try.underlying29 rfl (by kernel_rfl)) rfl ⟨by rw [HV.out]; rfl, below_store hB (Nat.le_refl _) c⟩
      · have HN : Hid (¬ (s.size ≤ k ∨ bt s k = 93)) := Lib.hid (by rw [HBt.out]; omega)
        have g1 : ((b : Int) == 93) = false := beq_eq_false_iff_ne.2 (by omega)
        have g2 : (b == 93) = false := beq_eq_false_iff_ne.2 hb93
        have g3 : ((b : Int) != 93) = true := by rw [bne, g1]; rfl
        have g4 : (b != 93) = true := by rw [bne, g2]; rfl
        obtain ⟨a, n, ha, hal, hnl⟩ := char_nat s k ownC
        have HCh := Lib.hid ha
        have HA := Lib.hid hA
        have HZ := Lib.hid hZ
        clear hA hZ
        by_cases hn0 : n = 0
        · subst hn0
          have HV : Hid (classS s p = (emptyC, 0)) := Lib.hid (cls_bad HJ2.out (by rw [HR.out, ← HF.out, classFrom_bad HN.out HCh.out]))
          clear ha
          obtain ⟨y0, y1, y2, y3⟩ := HZ.out.frees
          obtain ⟨z0, z1, z2, z3⟩ := HZ.out.cells
          go_wp2_with fail
          refine (refCharV s k ownC hs (by omega) (by decide) a 0 HCh.out _).mono ?_
          rintro e w1 ⟨rfl, q, rfl⟩
          go_wp2_with fail
          exact bodyPost_ret (results_row_tmp Try.results20 _ _ w.heap.size 29 _ (0, 0) _ rfl ((HZ.out.drewN _).store emptyC) Try.underlying29 rfl (by kernel_rfl)) rfl ⟨by rw [HV.out]; rfl, below_store (below_drew hB _) (Nat.le_refl _) emptyC⟩
        · have hin : k + n ≤ s.size := char_in HCh.out (by omega)
          clear ha
          have m1 : ((n : Int) == 0) = false := beq_eq_false_iff_ne.2 (by omega)
          have m2 : (n == 0) = false := beq_eq_false_iff_ne.2 hn0
          have wa : IntKind.i64.wrap (a : Int) = (a : Int) := by rw [IntKind.wrap_i64]; omega
          obtain ⟨j, hj⟩ : ∃ j, j = k + n := ⟨_, rfl⟩
          have hj' : (k : Int) + (n : Int) = (j : Int) := by omega
          have HJn := Lib.hid hj
          by_cases h2 : j < s.size
          · obtain ⟨b2, hb2⟩ : ∃ b, (s[j]'h2).toNat = b := ⟨_, rfl⟩
            have hl2 : b2 < 256 := by rw [← hb2]; exact UInt8.toNat_lt _
            have HB2 : Hid (bt s (k + n) = b2) := Lib.hid (by rw [← hj, ← bt_is h2]; exact hb2)
            have t1 : decide ((j : Int) < (s.size : Int)) = true := txt_t (by omega)
            by_cases h45 : b2 = 45
            · have u1 : ((b2 : Int) == 45) = true := by rw [beq_iff_eq]; omega
              have u2 : (b2 == 45) = true := by rw [beq_iff_eq]; omega
              have HD : Hid (k + n < s.size ∧ bt s (k + n) = 45) := Lib.hid ⟨by omega, by rw [HB2.out]; exact h45⟩
              obtain ⟨b', m, hb', hbl, hml⟩ := char_nat s (k + n + 1) ownC
              have HCh2 : Hid (charS s (j + 1) ownC = ((b' : Int), (m : Int))) := Lib.hid (by rw [HJn.out]; exact hb')
              have HCh3 := Lib.hid hb'
              by_cases hm0 : m = 0
              · subst hm0
                have HV : Hid (classS s p = (emptyC, 0)) := Lib.hid (cls_bad HJ2.out (by rw [HR.out, ← HF.out, classFrom_bad2 HN.out HCh.out (by omega) HD.out HCh3.out (Or.inl rfl)]))
                clear hb' hj
                obtain ⟨y0, y1, y2, y3⟩ := HZ.out.frees
                obtain ⟨z0, z1, z2, z3⟩ := HZ.out.cells
                go_wp2_with fail
                refine (refCharV s k ownC hs (by omega) (by decide) a n HCh.out _).mono ?_
                rintro e w1 ⟨rfl, q, rfl⟩
                go_wp2_with fail
                refine (refCharV s (j + 1) ownC hs (by omega) (by decide) b' 0 HCh2.out _).mono ?_
                rintro e w1 ⟨rfl, q2, rfl⟩
                go_wp2_with fail
                exact bodyPost_ret (results_row_tmp Try.results20 _ _ w.heap.size 29 _ (0, 0) _ rfl ((HZ.out.drewN (q + q2)).store emptyC) Try.underlying29 rfl (by kernel_rfl)) rfl ⟨by rw [HV.out]; rfl, below_store (below_drew hB (q + q2)) (Nat.le_refl _) emptyC⟩
              · have hin2 : k + n + 1 + m ≤ s.size := char_in HCh3.out (by omega)
                have v1 : ((m : Int) == 0) = false := beq_eq_false_iff_ne.2 (by omega)
                have v2 : (m == 0) = false := beq_eq_false_iff_ne.2 hm0
                by_cases hab : (b' : Int) < (a : Int)
                · have x1 := txt_t hab
                  have x1n := txt_t (show b' < a by omega)
                  have HV : Hid (classS s p = (emptyC, 0)) := Lib.hid (cls_bad HJ2.out (by rw [HR.out, ← HF.out, classFrom_bad2 HN.out HCh.out (by omega) HD.out HCh3.out (Or.inr hab)]))
                  clear hb' hj
                  obtain ⟨y0, y1, y2, y3⟩ := HZ.out.frees
                  obtain ⟨z0, z1, z2, z3⟩ := HZ.out.cells
                  go_wp2_with fail
                  refine (refCharV s k ownC hs (by omega) (by decide) a n HCh.out _).mono ?_
                  rintro e w1 ⟨rfl, q, rfl⟩
                  go_wp2_with fail
                  refine (refCharV s (j + 1) ownC hs (by omega) (by decide) b' m HCh2.out _).mono ?_
                  rintro e w1 ⟨rfl, q2, rfl⟩
                  go_wp2_with fail
                  exact bodyPost_ret (results_row_tmp Try.results20 _ _ w.heap.size 29 _ (0, 0) _ rfl ((HZ.out.drewN (q + q2)).store emptyC) Try.underlying29 rfl (by kernel_rfl)) rfl ⟨by rw [HV.out]; rfl, below_store (below_drew hB (q + q2)) (Nat.le_refl _) emptyC⟩
                · have x1 := txt_f hab
                  have x1n := txt_f (show ¬ b' < a by omega)
                  have wb : IntKind.i64.wrap (b' : Int) = (b' : Int) := by rw [IntKind.wrap_i64]; omega
                  have HF2 : Hid (classFrom s f (j + 1 + m) (puts c a (b' + 1 - a)) = R) := Lib.hid (by rw [HJn.out, ← HF.out, classFrom_two HN.out HCh.out (by omega) HD.out HCh3.out (by omega) (by omega)])
                  clear hb' hj
                  go_wp2_with fail
                  refine (refCharV s k ownC hs (by omega) (by decide) a n HCh.out _).mono ?_
                  rintro e w1 ⟨rfl, q, rfl⟩
                  go_wp2_with fail
                  refine (refCharV s (j + 1) ownC hs (by omega) (by decide) b' m HCh2.out _).mono ?_
                  rintro e w1 ⟨rfl, q2, rfl⟩
                  go_wp2_with fail
                  go_loopw [14] (fun x wr => ∃ m : Nat, m ≤ b' + 1 - a ∧ x = .int .i64 ((a + m : Nat) : Int) ∧ SetAt wr (w.heap.size + 1) 29 (puts c a m) ∧ SetAt wr w.heap.size 29 emptyC ∧ Below w.heap.size w wr) (fun x _ => 600 - (intOf x).toNat)
                  case atStart => exact ⟨0, Nat.zero_le _, by go_num, HA.out.drewN (q + q2), HZ.out.drewN (q + q2), below_drew hB (q + q2)⟩
                  case round =>
                    obtain ⟨m, hm, rfl, hs1, hz1, hB1⟩ := hrel
                    obtain ⟨x, hx⟩ : ∃ x : Nat, x = a + m := ⟨_, rfl⟩
                    rw [← hx]
                    have HX := Lib.hid hx
                    by_cases hlt : m < b' + 1 - a
                    · have hx256 : x < 256 := by omega
                      have hxhi : x ≤ b' := by omega
                      clear hx
                      obtain ⟨c0, c1, c2, c3⟩ := hs1.cells
                      have HS := Lib.hid hs1
                      have HZ := Lib.hid hz1
                      clear hs1 hz1
                      go_wp2_with fail
                      refine (refPut (puts c a m) (puts_ok hc a m) x hx256 _).mono ?_
                      rintro e w1 ⟨rfl, hb1⟩
                      have HS1 := Lib.hid (HS.out.next hb1)
                      have HZ1 := Lib.hid (HZ.out.next hb1)
                      obtain ⟨d0, d1, d2, d3⟩ := HS1.out.cells
                      obtain ⟨f0, f1, f2, f3⟩ := HS1.out.frees
                      have hB2 := hB1.trans (hb1.mono hB1.size)
                      clear c0 c1 c2 c3
                      go_wp2_with fail
                      exact ⟨⟨m + 1, by omega, by rw [show ((a + (m + 1) : Nat) : Int) = (x : Int) + 1 from by have := HX.out; omega], by show SetAt _ _ _ ((puts c a m).put (a + m)); rw [← HX.out]; exact HS1.out.store _, HZ1.out.other (by omega) _, below_store hB2 (Nat.le_succ _) _⟩, by simp [intOf]; omega⟩
                    · have hxhi : b' < x := by omega
                      obtain rfl : m = b' + 1 - a := by omega
                      clear hx
                      have HS := Lib.hid hs1
                      have HZ := Lib.hid hz1
                      clear hs1 hz1
                      go_wp2_with fail
                      exact ⟨⟨j + 1 + m, puts c a (b' + 1 - a), f, by omega, by omega, by go_num, puts_ok hc _ _, by omega, HF2, HS.out, HZ.out, hB1⟩, by simp [intOf]; omega⟩
            · have u1 : ((b2 : Int) == 45) = false := beq_eq_false_iff_ne.2 (by omega)
              have u2 : (b2 == 45) = false := beq_eq_false_iff_ne.2 h45
              have HF2 : Hid (classFrom s f j (puts c a (a + 1 - a)) = R) := Lib.hid (by rw [HJn.out, show a + 1 - a = 1 by omega, ← HF.out, classFrom_one HN.out HCh.out (by omega) (by rw [HB2.out]; exact fun x => h45 x.2)])
              clear hj
              go_wp2_with fail
              refine (refCharV s k ownC hs (by omega) (by decide) a n HCh.out _).mono ?_
              rintro e w1 ⟨rfl, q, rfl⟩
              go_wp2_with fail
              go_loopw [14] (fun x wr => ∃ m : Nat, m ≤ a + 1 - a ∧ x = .int .i64 ((a + m : Nat) : Int) ∧ SetAt wr (w.heap.size + 1) 29 (puts c a m) ∧ SetAt wr w.heap.size 29 emptyC ∧ Below w.heap.size w wr) (fun x _ => 600 - (intOf x).toNat)
              case atStart => exact ⟨0, Nat.zero_le _, by go_num, HA.out.drewN q, HZ.out.drewN q, below_drew hB q⟩
              case round =>
                obtain ⟨m, hm, rfl, hs1, hz1, hB1⟩ := hrel
                obtain ⟨x, hx⟩ : ∃ x : Nat, x = a + m := ⟨_, rfl⟩
                rw [← hx]
                have HX := Lib.hid hx
                by_cases hlt : m < a + 1 - a
                · have hx256 : x < 256 := by omega
                  have hxhi : x ≤ a := by omega
                  clear hx
                  obtain ⟨c0, c1, c2, c3⟩ := hs1.cells
                  have HS := Lib.hid hs1
                  have HZ := Lib.hid hz1
                  clear hs1 hz1
                  go_wp2_with fail
                  refine (refPut (puts c a m) (puts_ok hc a m) x hx256 _).mono ?_
                  rintro e w1 ⟨rfl, hb1⟩
                  have HS1 := Lib.hid (HS.out.next hb1)
                  have HZ1 := Lib.hid (HZ.out.next hb1)
                  obtain ⟨d0, d1, d2, d3⟩ := HS1.out.cells
                  obtain ⟨f0, f1, f2, f3⟩ := HS1.out.frees
                  have hB2 := hB1.trans (hb1.mono hB1.size)
                  clear c0 c1 c2 c3
                  go_wp2_with fail
                  exact ⟨⟨m + 1, by omega, by rw [show ((a + (m + 1) : Nat) : Int) = (x : Int) + 1 from by have := HX.out; omega], by show SetAt _ _ _ ((puts c a m).put (a + m)); rw [← HX.out]; exact HS1.out.store _, HZ1.out.other (by omega) _, below_store hB2 (Nat.le_succ _) _⟩, by simp [intOf]; omega⟩
                · have hxhi : a < x := by omega
                  obtain rfl : m = a + 1 - a := by omega
                  clear hx
                  have HS := Lib.hid hs1
                  have HZ := Lib.hid hz1
                  clear hs1 hz1
                  go_wp2_with fail
                  exact ⟨⟨j, puts c a (a + 1 - a), f, by omega, by omega, by go_num, puts_ok hc _ _, by omega, HF2, HS.out, HZ.out, hB1⟩, by simp [intOf]; omega⟩
          · have t1 : decide ((j : Int) < (s.size : Int)) = false := txt_f (by omega)
            have HF2 : Hid (classFrom s f j (puts c a (a + 1 - a)) = R) := Lib.hid (by rw [HJn.out, show a + 1 - a = 1 by omega, ← HF.out, classFrom_one HN.out HCh.out (by omega) (fun x => h2 (by omega))])
            clear hj
            go_wp2_with fail
            refine (refCharV s k ownC hs (by omega) (by decide) a n HCh.out _).mono ?_
            rintro e w1 ⟨rfl, q, rfl⟩
            go_wp2_with fail
            go_loopw [14] (fun x wr => ∃ m : Nat, m ≤ a + 1 - a ∧ x = .int .i64 ((a + m : Nat) : Int) ∧ SetAt wr (w.heap.size + 1) 29 (puts c a m) ∧ SetAt wr w.heap.size 29 emptyC ∧ Below w.heap.size w wr) (fun x _ => 600 - (intOf x).toNat)
            case atStart => exact ⟨0, Nat.zero_le _, by go_num, HA.out.drewN q, HZ.out.drewN q, below_drew hB q⟩
            case round =>
              obtain ⟨m, hm, rfl, hs1, hz1, hB1⟩ := hrel
              obtain ⟨x, hx⟩ : ∃ x : Nat, x = a + m := ⟨_, rfl⟩
              rw [← hx]
              have HX := Lib.hid hx
              by_cases hlt : m < a + 1 - a
              · have hx256 : x < 256 := by omega
                have hxhi : x ≤ a := by omega
                clear hx
                obtain ⟨c0, c1, c2, c3⟩ := hs1.cells
                have HS := Lib.hid hs1
                have HZ := Lib.hid hz1
                clear hs1 hz1
                go_wp2_with fail
                refine (refPut (puts c a m) (puts_ok hc a m) x hx256 _).mono ?_
                rintro e w1 ⟨rfl, hb1⟩
                have HS1 := Lib.hid (HS.out.next hb1)
                have HZ1 := Lib.hid (HZ.out.next hb1)
                obtain ⟨d0, d1, d2, d3⟩ := HS1.out.cells
                obtain ⟨f0, f1, f2, f3⟩ := HS1.out.frees
                have hB2 := hB1.trans (hb1.mono hB1.size)
                clear c0 c1 c2 c3
                go_wp2_with fail
                exact ⟨⟨m + 1, by omega, by rw [show ((a + (m + 1) : Nat) : Int) = (x : Int) + 1 from by have := HX.out; omega], by show SetAt _ _ _ ((puts c a m).put (a + m)); rw [← HX.out]; exact HS1.out.store _, HZ1.out.other (by omega) _, below_store hB2 (Nat.le_succ _) _⟩, by simp [intOf]; omega⟩
              · have hxhi : a < x := by omega
                obtain rfl : m = a + 1 - a := by omega
                clear hx
                have HS := Lib.hid hs1
                have HZ := Lib.hid hz1
                clear hs1 hz1
                go_wp2_with fail
                exact ⟨⟨j, puts c a (a + 1 - a), f, by omega, by omega, by go_num, puts_ok hc _ _, by omega, HF2, HS.out, HZ.out, hB1⟩, by simp [intOf]; omega⟩
    · obtain rfl : k = s.size := by omega
      have HV : Hid (classS s p = (emptyC, 0)) := Lib.hid (cls_past HJ2.out (by rw [HR.out, ← HF.out, classFrom_end (Or.inl (by omega))]) (by omega))
      obtain ⟨y0, y1, y2, y3⟩ := hZ.frees
      obtain ⟨z0, z1, z2, z3⟩ := hZ.cells
      have HA := Lib.hid hA
      have HZ := Lib.hid hZ
      clear hA hZ
      go_wp2_with fail
      exact bodyPost_ret (results_row_tmp Try.results20 _ _ w.heap.size 29 _ (0, 0) _ rfl (HZ.out.store emptyC) Try.underlying29 rfl (by kernel_rfl)) rfl ⟨by rw [HV.out]; rfl, below_store hB (Nat.le_refl _) emptyC⟩
end Go.Proofs.Ytdcldhkpmihahaa
