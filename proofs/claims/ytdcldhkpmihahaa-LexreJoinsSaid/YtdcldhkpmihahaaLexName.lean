/- What the program's isName answers. -/
import Derived.Test.YtdcldhkpmihahaaLexB
namespace Go.Proofs.Ytdcldhkpmihahaa
open Go.RowKit
set_option linter.unusedSimpArgs false
set_option linter.unusedVariables false

theorem txt_nob {s : ByteArray} {v : Bool} (h : namedS s = v) : Ending.returned (.bool v) = .returned (.bool (namedS s)) := by rw [h]
set_option maxRecDepth 100000 in
set_option maxHeartbeats 4000000 in
theorem lexName (s : ByteArray) (hs : s.size ≤ 20000) (w : World) : Calls Try.prog 33 #[.string s] w fun e w' => e = .returned (.bool (namedS s)) ∧ w = w' := by
  by_cases h0 : s.size = 0
  · have he : s = ⟨#[]⟩ := by
      cases s with
      | mk a => cases a with
        | mk l => cases l with
          | nil => rfl
          | cons x r => simp [ByteArray.size] at h0
    subst he
    have HV : Hid (namedS ⟨#[]⟩ = false) := Lib.hid rfl
    go_enter Try.func33, Try.ntmps33
    go_wp2
    go_ret
    exact ⟨txt_nob HV.out, rfl⟩
  have hlt0 : 0 < s.size := by omega
  have ne0 := text_some hlt0
  by_cases s1 : (20 : Int) < (s.size : Int)
  · have d1 := txt_t s1
    have d1n := txt_t (show 20 < s.size by omega)
    have HV : Hid (namedS s = false) := Lib.hid (by unfold namedS; rw [decide_eq_false (by omega)]; rfl)
    go_enter Try.func33, Try.ntmps33
    go_wp2
    go_ret
    exact ⟨txt_nob HV.out, rfl⟩
  have d1 := txt_f s1
  have d1n := txt_f (show ¬ 20 < s.size by omega)
  obtain ⟨b0, hb0⟩ : ∃ b, (s[0]'hlt0).toNat = b := ⟨_, rfl⟩
  have hl0 : b0 < 256 := by rw [← hb0]; exact UInt8.toNat_lt _
  have HB0 : Hid (bt s 0 = b0) := Lib.hid (by rw [← bt_is hlt0]; exact hb0)
  obtain ⟨v, hv⟩ : ∃ v, alphaS b0 = v := ⟨_, rfl⟩
  have HA0 := Lib.hid hv
  clear hv
  rcases v with _ | _
  · have HV : Hid (namedS s = false) := Lib.hid (by unfold namedS; rw [HB0.out, HA0.out]; simp)
    go_enter Try.func33, Try.ntmps33
    go_wp2_with fail
    refine (lexLetterV b0 hl0 false HA0.out _).mono ?_
    rintro e w3 ⟨rfl, rfl⟩
    go_wp2
    go_ret
    exact ⟨txt_nob HV.out, rfl⟩
  · go_enter Try.func33, Try.ntmps33
    go_wp2_with fail
    refine (lexLetterV b0 hl0 true HA0.out _).mono ?_
    rintro e w3 ⟨rfl, rfl⟩
    go_wp2
    go_loop [20] (fun i => ∃ k : Nat, k ≤ s.size ∧ i = .int .i64 k ∧ Hid (nameTo s k = true)) (fun i => s.size - (intOf i).toNat)
    case atStart => exact ⟨0, Nat.zero_le _, rfl, Lib.hid rfl⟩
    case round =>
      obtain ⟨k, hk, rfl, HK⟩ := hrel
      by_cases hlt : k < s.size
      · obtain ⟨b, hb⟩ : ∃ b, (s[k]'hlt).toNat = b := ⟨_, rfl⟩
        have hl : b < 256 := by rw [← hb]; exact UInt8.toNat_lt _
        have HBt : Hid (bt s k = b) := Lib.hid (by rw [← bt_is hlt]; exact hb)
        have ok : inName b = true → Hid (nameTo s (k + 1) = true) := fun h => Lib.hid (by rw [nameTo_succ, HK.out, HBt.out, h]; rfl)
        have no : inName b = false → Hid (namedS s = false) := fun h => Lib.hid (named_not hlt (by rw [HBt.out]; exact h))
        obtain ⟨v, hv⟩ : ∃ v, alphaS b = v := ⟨_, rfl⟩
        have HA := Lib.hid hv
        clear hv
        rcases v with _ | _
        · by_cases hg : 48 ≤ b ∧ b ≤ 57
          · have HG : Hid (digS b = true) := Lib.hid (decide_eq_true (by omega))
            have HN := ok (by unfold inName; rw [HA.out, decide_eq_true (show (48 : Int) ≤ b by omega), decide_eq_true (show (b : Int) ≤ 57 by omega)]; simp)
            clear ok no
            go_wp2_with fail
            refine (lexLetterV b hl false HA.out _).mono ?_
            rintro e w3 ⟨rfl, rfl⟩
            go_wp2_with fail
            refine (lexDigitV b hl true HG.out _).mono ?_
            rintro e w3 ⟨rfl, rfl⟩
            go_wp2
            go_round
            case rel => exact ⟨k + 1, by omega, by go_num, HN⟩
            case measure => simp [intOf]; omega
          · have HG : Hid (digS b = false) := Lib.hid (decide_eq_false (by omega))
            by_cases e : b = 95
            · have HN := ok (by unfold inName; rw [HA.out, decide_eq_true (show (b : Int) = 95 by omega)]; rfl)
              clear ok no
              have f1 : ((b : Int) == 95) = true := by rw [beq_iff_eq]; omega
              have f2 : (b == 95) = true := by rw [beq_iff_eq]; omega
              have f3 : ((b : Int) != 95) = false := by rw [bne, f1]; rfl
              have f4 : (b != 95) = false := by rw [bne, f2]; rfl
              clear e
              go_wp2_with fail
              refine (lexLetterV b hl false HA.out _).mono ?_
              rintro e w3 ⟨rfl, rfl⟩
              go_wp2_with fail
              refine (lexDigitV b hl false HG.out _).mono ?_
              rintro e w3 ⟨rfl, rfl⟩
              go_wp2
              go_round
              case rel => exact ⟨k + 1, by omega, by go_num, HN⟩
              case measure => simp [intOf]; omega
            · have HV := no (by unfold inName; rw [HA.out, decide_eq_false (show ¬ (b : Int) = 95 by omega), show (decide ((48 : Int) ≤ b) && decide ((b : Int) ≤ 57)) = false from by rw [Bool.and_eq_false_iff, decide_eq_false_iff_not, decide_eq_false_iff_not]; omega]; rfl)
              clear ok no
              have f1 : ((b : Int) == 95) = false := beq_eq_false_iff_ne.2 (by omega)
              have f2 : (b == 95) = false := beq_eq_false_iff_ne.2 e
              have f3 : ((b : Int) != 95) = true := by rw [bne, f1]; rfl
              have f4 : (b != 95) = true := by rw [bne, f2]; rfl
              clear e
              go_wp2_with fail
              refine (lexLetterV b hl false HA.out _).mono ?_
              rintro e w3 ⟨rfl, rfl⟩
              go_wp2_with fail
              refine (lexDigitV b hl false HG.out _).mono ?_
              rintro e w3 ⟨rfl, rfl⟩
              go_wp2
              go_ret
              exact ⟨txt_nob HV.out, rfl⟩
        · have HN := ok (by unfold inName; rw [HA.out]; rfl)
          clear ok no
          go_wp2_with fail
          refine (lexLetterV b hl true HA.out _).mono ?_
          rintro e w3 ⟨rfl, rfl⟩
          go_wp2
          go_round
          case rel => exact ⟨k + 1, by omega, by go_num, HN⟩
          case measure => simp [intOf]; omega
      · obtain rfl : k = s.size := by omega
        have HV : Hid (namedS s = true) := Lib.hid (named_all (by omega) (by rw [HB0.out]; exact HA0.out) HK.out)
        go_wp2
        go_ret
        exact ⟨txt_nob HV.out, rfl⟩
theorem lexNameV (s : ByteArray) (hs : s.size ≤ 20000) (v : Bool) (hv : namedS s = v) (w : World) : Calls Try.prog 33 #[.string s] w fun e w' => e = .returned (.bool v) ∧ w = w' := by
  rw [← hv]; exact lexName s hs w
end Go.Proofs.Ytdcldhkpmihahaa
