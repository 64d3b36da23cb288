/- What the reference's Named and signs answer. -/
import Derived.Test.YtdcldhkpmihahaaTextA
namespace Go.Proofs.Ytdcldhkpmihahaa
open Go.RowKit
set_option linter.unusedSimpArgs false
set_option linter.unusedVariables false

/-- May a byte stand in a name? -/
def inName (c : Int) : Bool := alphaS c || (decide (c = 95) || (decide (48 ≤ c) && decide (c ≤ 57)))
def nameTo (s : ByteArray) (k : Nat) : Bool := (List.range k).all (fun i => inName (bt s i))
def namedS (s : ByteArray) : Bool := decide (1 ≤ s.size ∧ s.size ≤ 20) && (alphaS (bt s 0) && nameTo s s.size)
theorem nameTo_succ (s : ByteArray) (k : Nat) : nameTo s (k + 1) = (nameTo s k && inName (bt s k)) := by unfold nameTo; rw [List.range_succ, List.all_append]; simp
theorem nameTo_not (s : ByteArray) (k : Nat) (h : nameTo s k = false) : ∀ i, nameTo s (k + i) = false
  | 0 => h
  | i + 1 => by rw [show k + (i + 1) = (k + i) + 1 by omega, nameTo_succ, nameTo_not s k h i]; rfl
theorem named_not {s : ByteArray} {k : Nat} (h : k < s.size) (e : inName (bt s k) = false) : namedS s = false := by
  have h1 : nameTo s (k + 1) = false := by rw [nameTo_succ, e]; simp
  have := nameTo_not s (k + 1) h1 (s.size - (k + 1))
  rw [show k + 1 + (s.size - (k + 1)) = s.size by omega] at this
  unfold namedS; rw [this]; simp
theorem named_all {s : ByteArray} (h : 1 ≤ s.size ∧ s.size ≤ 20) (a : alphaS (bt s 0) = true) (e : nameTo s s.size = true) : namedS s = true := by unfold namedS; rw [a, e, decide_eq_true h]; rfl

theorem refAlphaV (b : Nat) (hb : b < 256) (v : Bool) (hv : alphaS b = v) (w : World) : Calls Try.prog 40 #[.int .u8 b] w fun e w' => e = .returned (.bool v) ∧ w = w' := by
  rw [← hv]; exact refAlpha b (by omega) (by omega) w

set_option maxRecDepth 100000 in
set_option maxHeartbeats 1000000 in
theorem refNamed (s : ByteArray) (hs : s.size ≤ 9223372036854775807) (w : World) : Calls Try.prog 36 #[.string s] w fun e w' => e = .returned (.bool (namedS s)) ∧ w = w' := by
  by_cases s0 : s.size < 1
  · have HV : Hid (namedS s = false) := Lib.hid (by unfold namedS; rw [decide_eq_false (by omega)]; rfl)
    have i0 : (s.size : Int) < 1 := by omega
    have d0 := txt_t i0
    go_enter Try.func36, Try.ntmps36
    go_wp2
    go_ret
    exact ⟨txt_bool HV.out.symm, rfl⟩
  · have i0 : ¬ (s.size : Int) < 1 := by omega
    have d0 := txt_f i0
    by_cases s1 : 20 < s.size
    · have HV : Hid (namedS s = false) := Lib.hid (by unfold namedS; rw [decide_eq_false (by omega)]; rfl)
      have i1 : (20 : Int) < (s.size : Int) := by omega
      have d1 := txt_t i1
      go_enter Try.func36, Try.ntmps36
      go_wp2
      go_ret
      exact ⟨txt_bool HV.out.symm, rfl⟩
    · have i1 : ¬ (20 : Int) < (s.size : Int) := by omega
      have d1 := txt_f i1
      have hlt0 : 0 < s.size := by omega
      obtain ⟨b0, hb0⟩ : ∃ b, (s[0]'hlt0).toNat = b := ⟨_, rfl⟩
      have hl0 : b0 < 256 := by rw [← hb0]; exact UInt8.toNat_lt _
      have HB0 : Hid (bt s 0 = b0) := Lib.hid (by rw [← bt_is hlt0]; exact hb0)
      obtain ⟨v, hv⟩ : ∃ v, alphaS b0 = v := ⟨_, rfl⟩
      have HA0 := Lib.hid hv
      clear hv
      rcases v with _ | _
      · have HV : Hid (namedS s = false) := Lib.hid (by unfold namedS; rw [HB0.out, HA0.out]; simp)
        go_enter Try.func36, Try.ntmps36
        go_wp2_with fail
        refine (refAlphaV b0 hl0 false HA0.out _).mono ?_
        rintro e w3 ⟨rfl, rfl⟩
        go_wp2
        go_ret
        exact ⟨txt_bool HV.out.symm, rfl⟩
      · go_enter Try.func36, Try.ntmps36
        go_wp2_with fail
        refine (refAlphaV b0 hl0 true HA0.out _).mono ?_
        rintro e w3 ⟨rfl, rfl⟩
        go_wp2
        go_loop [21] (fun i => ∃ k : Nat, k ≤ s.size ∧ i = .int .i64 k ∧ Hid (nameTo s k = true)) (fun i => s.size - (intOf i).toNat)
        case atStart => exact ⟨0, Nat.zero_le _, rfl, Lib.hid rfl⟩
        case round =>
          obtain ⟨k, hk, rfl, HK⟩ := hrel
          by_cases hlt : k < s.size
          · obtain ⟨b, hb⟩ : ∃ b, (s[k]'hlt).toNat = b := ⟨_, rfl⟩
            have hl : b < 256 := by rw [← hb]; exact UInt8.toNat_lt _
            have HBt : Hid (bt s k = b) := Lib.hid (by rw [← bt_is hlt]; exact hb)
            obtain ⟨v, hv⟩ : ∃ v, alphaS b = v := ⟨_, rfl⟩
            have HA := Lib.hid hv
            clear hv
            have ok : inName b = true → Hid (nameTo s (k + 1) = true) := fun h => Lib.hid (by rw [nameTo_succ, HK.out, HBt.out, h]; rfl)
            have no : inName b = false → Hid (namedS s = false) := fun h => Lib.hid (named_not hlt (by rw [HBt.out]; exact h))
            rcases v with _ | _
            · by_cases e : b = 95
              · have HN := ok (by unfold inName; rw [HA.out, decide_eq_true (show (b : Int) = 95 by omega)]; rfl)
                clear ok no
                have f1 : ((b : Int) == 95) = true := by rw [beq_iff_eq]; omega
                have f2 : (b == 95) = true := by rw [beq_iff_eq]; omega
                have f3 : ((b : Int) != 95) = false := by rw [bne, f1]; rfl
                have f4 : (b != 95) = false := by rw [bne, f2]; rfl
                clear e
                go_wp2_with fail
                refine (refAlphaV b hl false HA.out _).mono ?_
                rintro e w3 ⟨rfl, rfl⟩
                go_wp2
                go_round
                case rel => exact ⟨k + 1, by omega, by go_num, HN⟩
                case measure => simp [intOf]; omega
              · have f1 : ((b : Int) == 95) = false := beq_eq_false_iff_ne.2 (by omega)
                have f2 : (b == 95) = false := beq_eq_false_iff_ne.2 e
                have f3 : ((b : Int) != 95) = true := by rw [bne, f1]; rfl
                have f4 : (b != 95) = true := by rw [bne, f2]; rfl
                have di : decide ((b : Int) = 95) = false := decide_eq_false (by omega)
                by_cases a1 : (b : Int) < 48
                · have d3 := txt_t a1
                  have HV := no (by unfold inName; rw [HA.out, di, decide_eq_false (by omega)]; rfl)
                  clear ok no di e
                  go_wp2_with fail
                  refine (refAlphaV b hl false HA.out _).mono ?_
                  rintro e w3 ⟨rfl, rfl⟩
                  go_wp2
                  go_ret
                  exact ⟨txt_bool HV.out.symm, rfl⟩
                · have d3 := txt_f a1
                  by_cases a2 : (57 : Int) < b
                  · have d4 := txt_t a2
                    have HV := no (by unfold inName; rw [HA.out, di, decide_eq_true (show (48 : Int) ≤ b by omega), decide_eq_false (by omega)]; rfl)
                    clear ok no di e
                    go_wp2_with fail
                    refine (refAlphaV b hl false HA.out _).mono ?_
                    rintro e w3 ⟨rfl, rfl⟩
                    go_wp2
                    go_ret
                    exact ⟨txt_bool HV.out.symm, rfl⟩
                  · have d4 := txt_f a2
                    have HN := ok (by unfold inName; rw [HA.out, di, decide_eq_true (show (48 : Int) ≤ b by omega), decide_eq_true (show (b : Int) ≤ 57 by omega)]; rfl)
                    clear ok no di e
                    go_wp2_with fail
                    refine (refAlphaV b hl false HA.out _).mono ?_
                    rintro e w3 ⟨rfl, rfl⟩
                    go_wp2
                    go_round
                    case rel => exact ⟨k + 1, by omega, by go_num, HN⟩
                    case measure => simp [intOf]; omega
            · have HN := ok (by unfold inName; rw [HA.out]; rfl)
              clear ok no
              go_wp2_with fail
              refine (refAlphaV b hl true HA.out _).mono ?_
              rintro e w3 ⟨rfl, rfl⟩
              go_wp2
              go_round
              case rel => exact ⟨k + 1, by omega, by go_num, HN⟩
              case measure => simp [intOf]; omega
          · obtain rfl : k = s.size := by omega
            have HV := Lib.hid (named_all (by omega) (by rw [HB0.out]; exact HA0.out) HK.out)
            go_wp2
            go_ret
            exact ⟨txt_bool HV.out.symm, rfl⟩

/-- A sign's kind; 0: no sign. -/
def signsS (c : Int) : Int := if c = 40 then 2 else if c = 41 then 3 else if c = 124 then 4 else if c = 38 then 5 else if c = 126 then 6 else if c = 42 then 7 else if c = 43 then 8 else if c = 63 then 9 else if c = 94 then 16 else if c = 36 then 17 else 0
theorem txt_eq {a b : Int} (h : a = b) : (a == b) = true := beq_iff_eq.2 h
theorem txt_ne {a b : Int} (h : ¬ a = b) : (a == b) = false := beq_eq_false_iff_ne.2 h

set_option maxRecDepth 100000 in
set_option maxHeartbeats 1000000 in
theorem refSigns (c : Int) (h0 : 0 ≤ c) (h1 : c ≤ 255) (w : World) : Calls Try.prog 22 #[.int .u8 c] w fun e w' => e = .returned (.int .i64 (signsS c)) ∧ w = w' := by
  by_cases a0 : c = 40
  · have d0 := txt_eq a0
    have HS : Hid (signsS c = 2) := Lib.hid (by unfold signsS; rw [if_pos a0])
    go_enter Try.func22, Try.ntmps22
    go_wp2
    go_ret
    exact ⟨txt_int HS.out.symm, rfl⟩
  · have d0 := txt_ne a0
    by_cases a1 : c = 41
    · have d1 := txt_eq a1
      have HS : Hid (signsS c = 3) := Lib.hid (by unfold signsS; rw [if_neg a0]; rw [if_pos a1])
      go_enter Try.func22, Try.ntmps22
      go_wp2
      go_ret
      exact ⟨txt_int HS.out.symm, rfl⟩
    · have d1 := txt_ne a1
      by_cases a2 : c = 124
      · have d2 := txt_eq a2
        have HS : Hid (signsS c = 4) := Lib.hid (by unfold signsS; rw [if_neg a0]; rw [if_neg a1]; rw [if_pos a2])
        go_enter Try.func22, Try.ntmps22
        go_wp2
        go_ret
        exact ⟨txt_int HS.out.symm, rfl⟩
      · have d2 := txt_ne a2
        by_cases a3 : c = 38
        · have d3 := txt_eq a3
          have HS : Hid (signsS c = 5) := Lib.hid (by unfold signsS; rw [if_neg a0]; rw [if_neg a1]; rw [if_neg a2]; rw [if_pos a3])
          go_enter Try.func22, Try.ntmps22
          go_wp2
          go_ret
          exact ⟨txt_int HS.out.symm, rfl⟩
        · have d3 := txt_ne a3
          by_cases a4 : c = 126
          · have d4 := txt_eq a4
            have HS : Hid (signsS c = 6) := Lib.hid (by unfold signsS; rw [if_neg a0]; rw [if_neg a1]; rw [if_neg a2]; rw [if_neg a3]; rw [if_pos a4])
            go_enter Try.func22, Try.ntmps22
            go_wp2
            go_ret
            exact ⟨txt_int HS.out.symm, rfl⟩
          · have d4 := txt_ne a4
            by_cases a5 : c = 42
            · have d5 := txt_eq a5
              have HS : Hid (signsS c = 7) := Lib.hid (by unfold signsS; rw [if_neg a0]; rw [if_neg a1]; rw [if_neg a2]; rw [if_neg a3]; rw [if_neg a4]; rw [if_pos a5])
              go_enter Try.func22, Try.ntmps22
              go_wp2
              go_ret
              exact ⟨txt_int HS.out.symm, rfl⟩
            · have d5 := txt_ne a5
              by_cases a6 : c = 43
              · have d6 := txt_eq a6
                have HS : Hid (signsS c = 8) := Lib.hid (by unfold signsS; rw [if_neg a0]; rw [if_neg a1]; rw [if_neg a2]; rw [if_neg a3]; rw [if_neg a4]; rw [if_neg a5]; rw [if_pos a6])
                go_enter Try.func22, Try.ntmps22
                go_wp2
                go_ret
                exact ⟨txt_int HS.out.symm, rfl⟩
              · have d6 := txt_ne a6
                by_cases a7 : c = 63
                · have d7 := txt_eq a7
                  have HS : Hid (signsS c = 9) := Lib.hid (by unfold signsS; rw [if_neg a0]; rw [if_neg a1]; rw [if_neg a2]; rw [if_neg a3]; rw [if_neg a4]; rw [if_neg a5]; rw [if_neg a6]; rw [if_pos a7])
                  go_enter Try.func22, Try.ntmps22
                  go_wp2
                  go_ret
                  exact ⟨txt_int HS.out.symm, rfl⟩
                · have d7 := txt_ne a7
                  by_cases a8 : c = 94
                  · have d8 := txt_eq a8
                    have HS : Hid (signsS c = 16) := Lib.hid (by unfold signsS; rw [if_neg a0]; rw [if_neg a1]; rw [if_neg a2]; rw [if_neg a3]; rw [if_neg a4]; rw [if_neg a5]; rw [if_neg a6]; rw [if_neg a7]; rw [if_pos a8])
                    go_enter Try.func22, Try.ntmps22
                    go_wp2
                    go_ret
                    exact ⟨txt_int HS.out.symm, rfl⟩
                  · have d8 := txt_ne a8
                    by_cases a9 : c = 36
                    · have d9 := txt_eq a9
                      have HS : Hid (signsS c = 17) := Lib.hid (by unfold signsS; rw [if_neg a0]; rw [if_neg a1]; rw [if_neg a2]; rw [if_neg a3]; rw [if_neg a4]; rw [if_neg a5]; rw [if_neg a6]; rw [if_neg a7]; rw [if_neg a8]; rw [if_pos a9])
                      go_enter Try.func22, Try.ntmps22
                      go_wp2
                      go_ret
                      exact ⟨txt_int HS.out.symm, rfl⟩
                    · have d9 := txt_ne a9
                      have HS : Hid (signsS c = 0) := Lib.hid (by unfold signsS; rw [if_neg a0]; rw [if_neg a1]; rw [if_neg a2]; rw [if_neg a3]; rw [if_neg a4]; rw [if_neg a5]; rw [if_neg a6]; rw [if_neg a7]; rw [if_neg a8]; rw [if_neg a9])
                      go_enter Try.func22, Try.ntmps22
                      go_wp2
                      go_ret
                      exact ⟨txt_int HS.out.symm, rfl⟩

end Go.Proofs.Ytdcldhkpmihahaa
