/- The law LexreJoins answers true. -/
import Derived.Test.YtdcldhkpmihahaaWordRow
import Derived.Test.YtdcldhkpmihahaaJoin
namespace Go.Proofs.Ytdcldhkpmihahaa
open Go.RowKit
set_option linter.unusedSimpArgs false
set_option linter.unusedVariables false

theorem words_place (s : ByteArray) : ∀ f i, ∀ x ∈ (wordsFrom s f i).1, x.2 < s.size := by
  intro f
  induction f with
  | zero => intro i x hx; exact absurd hx (by simp [wordsFrom])
  | succ f ih =>
    intro i x hx
    unfold wordsFrom at hx
    split at hx
    · exact absurd hx (by simp)
    split at hx
    · exact ih _ x hx
    split at hx
    · exact absurd hx (by simp)
    · dsimp only at hx
      rcases List.mem_cons.1 hx with rfl | hx
      · dsimp only; omega
      · exact ih _ x hx

set_option maxRecDepth 100000 in
set_option maxHeartbeats 4000000 in
theorem joinsBigA (s t : ByteArray) (h1 : 4000 < s.size) (w : World) : Calls Try.prog 4 #[.string s, .string t] w fun e w' => e = .returned (.bool true) ∧ Below w.heap.size w w' := by
  have d0 : decide ((4000 : Int) < (s.size : Int)) = true := txt_t (by omega)
  go_enter Try.func4, Try.ntmps4
  go_wp2_with fail
  refine (lawAwake _).mono ?_
  rintro e w1 ⟨rfl, hb1⟩
  have HB1 := Lib.hid hb1
  clear hb1
  go_wp2_with fail
  refine (lawAwake _).mono ?_
  rintro e w2 ⟨rfl, hb2⟩
  have HB2 := Lib.hid (HB1.out.trans (hb2.mono HB1.out.size))
  clear hb2
  go_wp2_with fail
  go_ret
  exact ⟨rfl, HB2.out⟩

set_option maxRecDepth 100000 in
set_option maxHeartbeats 4000000 in
theorem joinsBigB (s t : ByteArray) (h1 : ¬ 4000 < s.size) (h2 : 4000 < t.size) (w : World) : Calls Try.prog 4 #[.string s, .string t] w fun e w' => e = .returned (.bool true) ∧ Below w.heap.size w w' := by
  have d0 : decide ((4000 : Int) < (s.size : Int)) = false := txt_f (by omega)
  have d1 : decide ((4000 : Int) < (t.size : Int)) = true := txt_t (by omega)
  go_enter Try.func4, Try.ntmps4
  go_wp2_with fail
  refine (lawAwake _).mono ?_
  rintro e w1 ⟨rfl, hb1⟩
  have HB1 := Lib.hid hb1
  clear hb1
  go_wp2_with fail
  refine (lawAwake _).mono ?_
  rintro e w2 ⟨rfl, hb2⟩
  have HB2 := Lib.hid (HB1.out.trans (hb2.mono HB1.out.size))
  clear hb2
  go_wp2_with fail
  go_ret
  exact ⟨rfl, HB2.out⟩

set_option maxRecDepth 100000 in
set_option maxHeartbeats 4000000 in
theorem joinsSmall (s t : ByteArray) (h1 : ¬ 4000 < s.size) (h2 : ¬ 4000 < t.size) (w : World) : Calls Try.prog 4 #[.string s, .string t] w fun e w' => e = .returned (.bool true) ∧ Below w.heap.size w w' := by
  have d0 : decide ((4000 : Int) < (s.size : Int)) = false := txt_f (by omega)
  have d1 : decide ((4000 : Int) < (t.size : Int)) = false := txt_f (by omega)
  go_enter Try.func4, Try.ntmps4
  go_wp2_with fail
  refine (lawAwake _).mono ?_
  rintro e w1 ⟨rfl, hb1⟩
  have HB1 := Lib.hid hb1
  clear hb1
  go_wp2_with fail
  refine (lexWords (s) (by omega) _).mono ?_
  rintro e w2 ⟨v1, l1, p1, q1, hS1, rfl, hW1, hb2⟩
  obtain ⟨A1, cap1, rfl⟩ := hW1.len
  have HS1 := Lib.hid hS1
  have HB2 := Lib.hid (HB1.out.trans (hb2.mono HB1.out.size))
  have HW11 := Lib.hid hW1
  have hm1 := hW1.max
  clear hS1 hW1 hb2
  go_wp2_with fail
  refine (lexWords (t) (by omega) _).mono ?_
  rintro e w3 ⟨v2, l2, p2, q2, hS2, rfl, hW2, hb3⟩
  obtain ⟨A2, cap2, rfl⟩ := hW2.len
  have HS2 := Lib.hid hS2
  have HB3 := Lib.hid (HB2.out.trans (hb3.mono HB2.out.size))
  have HW12 := Lib.hid (HW11.out.next hb3)
  have HW22 := Lib.hid hW2
  have hm2 := hW2.max
  clear hS2 hW2 hb3
  obtain ⟨X, hX⟩ : ∃ X, s ++ { data := #[32] } ++ t = X := ⟨_, rfl⟩
  have HJ : Hid (Joined s t X) := Lib.hid (by rw [← hX]; exact joined s t)
  go_wp2_with fail
  refine (lexWords (X) (by have := HJ.out.size; omega) _).mono ?_
  rintro e w4 ⟨v3, l3, p3, q3, hS3, rfl, hW3, hb4⟩
  obtain ⟨A3, cap3, rfl⟩ := hW3.len
  have HS3 := Lib.hid hS3
  have HB4 := Lib.hid (HB3.out.trans (hb4.mono HB3.out.size))
  have HW13 := Lib.hid (HW12.out.next hb4)
  have HW23 := Lib.hid (HW22.out.next hb4)
  have HW33 := Lib.hid hW3
  have hm3 := hW3.max
  clear hS3 hW3 hb4
  clear hX
  by_cases hq1 : q1 = 0
  · by_cases hq2 : q2 = 0
    · obtain rfl := hq1
      obtain rfl := hq2
      have hS := (HS3.out).symm.trans (wordsS_join HJ.out (by omega) (by omega) HS1.out HS2.out)
      injection hS with e1 e2
      injection e2 with e2 e3
      subst e2 e3
      have hl : l3.length = l1.length + l2.length := by rw [e1, List.length_append]; simp [shiftW]
      have HE := Lib.hid e1
      have HL := Lib.hid hl
      have hab : l1.length + l2.length ≤ 9223372036854775807 := by omega
      have n1 : ((l3.length : Int) == (l1.length : Int) + (l2.length : Int)) = true := by rw [beq_iff_eq]; omega
      have n2 : ((l3.length : Int) != (l1.length : Int) + (l2.length : Int)) = false := by rw [bne, n1]; rfl
      clear e1 hl
      go_wp2_with fail
      clear n1 n2
      go_loopw [70] (fun i wr => ∃ k : Nat, k ≤ l3.length ∧ i = .int .i64 k ∧ Hid (Wds wr w1.heap.size (.slice A1 l1.length cap1) l1) ∧ Hid (Wds wr w2.heap.size (.slice A2 l2.length cap2) l2) ∧ Hid (Wds wr w3.heap.size (.slice A3 l3.length cap3) l3) ∧ Hid (Below w.heap.size w wr)) (fun i _ => l3.length - (intOf i).toNat)
      case atStart => exact ⟨0, Nat.zero_le _, rfl, HW13, HW23, HW33, HB4⟩
      case round =>
        obtain ⟨k, hk, rfl, HR1, HR2, HR3, HB⟩ := hrel
        by_cases hlt : k < l3.length
        · by_cases hka : k < l1.length
          · have d1 : decide (k < l1.length) = true := decide_eq_true hka
            obtain ⟨g1, rfl, _, _, hc1⟩ := HR1.out.at k hka
            obtain ⟨g3, rfl, _, _, hc3⟩ := HR3.out.at k hlt
            have h31 : l3[k] = l1[k] := by simp only [HE.out]; rw [List.getElem_append_left hka]
            rw [h31] at hc3
            obtain ⟨x, hx⟩ : ∃ x, l1[k].1 = x := ⟨_, rfl⟩
            obtain ⟨m, hm⟩ : ∃ m, l1[k].2 = m := ⟨_, rfl⟩
            rw [hx, hm] at hc1 hc3
            clear hx hm h31
            obtain ⟨a0, a1, a2, a3, a4, a5, a6, a7, a8⟩ := hc1
            obtain ⟨c0, c1, c2, c3, c4, c5, c6, c7, c8⟩ := hc3
            have hq := fun W => wdEq W x m
            go_wp2_with fail
            go_quiet (fail)
            go_wp2_with fail
            have bd := below_drew (Below.refl wr.heap.size wr) nq
            exact ⟨⟨k + 1, by omega, by go_num, Lib.hid (HR1.out.next bd), Lib.hid (HR2.out.next bd), Lib.hid (HR3.out.next bd), Lib.hid (HB.out.trans (bd.mono HB.out.size))⟩, by simp [intOf]; omega⟩
          · obtain ⟨j, hj⟩ : ∃ j, k = l1.length + j := ⟨k - l1.length, by omega⟩
            have hjl : j < l2.length := by have := HL.out; omega
            have d1 : decide (k < l1.length) = false := decide_eq_false hka
            obtain ⟨g2, rfl, _, hg2, hc2⟩ := HR2.out.at j hjl
            obtain ⟨g3, rfl, _, hg3, hc3⟩ := HR3.out.at k hlt
            have h32 : l3[k] = (l2[j].1, s.size + 1 + l2[j].2) := by
              simp only [HE.out]
              rw [List.getElem_append_right (by omega)]
              simp only [shiftW, List.getElem_map]
              have e : k - l1.length = j := by omega
              simp only [e]
            rw [h32] at hc3
            dsimp only at hc3
            have hpl : l2[j].2 < t.size := words_place t (t.size + 1) 0 _ (by rw [(wordsS_ok HS2.out).2]; exact List.getElem_mem hjl)
            obtain ⟨x, hx⟩ : ∃ x, l2[j].1 = x := ⟨_, rfl⟩
            obtain ⟨m, hm⟩ : ∃ m, l2[j].2 = m := ⟨_, rfl⟩
            rw [hx, hm] at hc2 hc3
            rw [hm] at hpl
            rw [show ((s.size + 1 + m : Nat) : Int) = (m : Int) + (s.size : Int) + 1 by omega] at hc3
            have hsub : (k : Int) - (l1.length : Int) = (j : Int) := by omega
            clear hx hm h32 hj
            obtain ⟨b0, b1, b2, b3, b4, b5, b6, b7, b8⟩ := hc2
            obtain ⟨c0, c1, c2, c3, c4, c5, c6, c7, c8⟩ := hc3
            have hq := fun W => wdEq W x ((m : Int) + (s.size : Int) + 1)
            go_wp2_with fail
            go_quiet (fail)
            go_wp2_with fail
            have bd : Below wr.heap.size wr _ := below_drew ((Below.refl wr.heap.size wr).alloc (Nat.le_refl _) (.cells #[.int .i64 x.kind, .int .i64 ((m : Int) + (s.size : Int) + 1), .int .u64 x.set.w0, .int .u64 x.set.w1, .int .u64 x.set.w2, .int .u64 x.set.w3, .string x.name, .int .i64 x.lo, .int .i64 x.hi] 31)) nq
            exact ⟨⟨k + 1, by omega, by go_num, Lib.hid (HR1.out.next bd), Lib.hid (HR2.out.next bd), Lib.hid (HR3.out.next bd), Lib.hid (HB.out.trans (bd.mono HB.out.size))⟩, by simp [intOf]; omega⟩
        · obtain rfl : k = l3.length := by omega
          go_wp2_with fail
          go_ret
          exact ⟨rfl, HB.out⟩
    · obtain rfl := hq1
      have n1 : (q2 == 0) = false := beq_eq_false_iff_ne.2 hq2
      have n2 : (q2 != 0) = true := by rw [bne, n1]; rfl
      clear hq2
      go_wp2_with fail
      go_ret
      exact ⟨rfl, HB4.out⟩
  · have n1 : (q1 == 0) = false := beq_eq_false_iff_ne.2 hq1
    have n2 : (q1 != 0) = true := by rw [bne, n1]; rfl
    clear hq1
    go_wp2_with fail
    go_ret
    exact ⟨rfl, HB4.out⟩

theorem lawJoins (s t : ByteArray) (w : World) : Calls Try.prog 4 #[.string s, .string t] w fun e w' => e = .returned (.bool true) ∧ Below w.heap.size w w' := by
  by_cases h1 : 4000 < s.size
  · exact joinsBigA s t h1 w
  · by_cases h2 : 4000 < t.size
    · exact joinsBigB s t h1 h2 w
    · exact joinsSmall s t h1 h2 w
end Go.Proofs.Ytdcldhkpmihahaa
