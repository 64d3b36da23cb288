/- What the program's hexEscape, escape and single answer. -/
import Derived.Test.YtdcldhkpmihahaaLexA
import Derived.Test.YtdcldhkpmihahaaTextE
import Derived.Deep.QuietTactic
import Derived.BigQuiet
import Derived.Lib.Strings
namespace Go.Proofs.Ytdcldhkpmihahaa
open Go.RowKit
set_option linter.unusedSimpArgs false
set_option linter.unusedVariables false

theorem esc_hex (t : ByteArray) (p : Nat) : escS t p 120 = (if p + 3 < t.size ∧ 0 ≤ valueS (bt t (p + 2)) ∧ 0 ≤ valueS (bt t (p + 3)) then (16 * valueS (bt t (p + 2)) + valueS (bt t (p + 3)), 4) else (0, 0)) := by unfold escS; rfl
theorem hex_or : ∀ u : Fin 16, ∀ v : Fin 16, bits .or .i64 (((u.val : Int)) * 16) (v.val : Int) = 16 * (u.val : Int) + (v.val : Int) := by decide

set_option maxRecDepth 100000 in
set_option maxHeartbeats 4000000 in
theorem lexHexEsc (t : ByteArray) (hs : t.size ≤ 20000) (w : World) :
    Calls Try.prog 25 #[.string t] w fun e w' => e = .returned (.tuple #[.int .u8 (escS t 0 120).1, .int .i64 (escS t 0 120).2]) ∧ ∃ n, w' = w.drewN n := by
  by_cases q1 : (t.size : Int) < 4
  · have d2 := txt_t q1
    have HV : Hid (escS t 0 120 = (0, 0)) := Lib.hid (by rw [esc_hex, if_neg (by omega)])
    go_enter Try.func25, Try.ntmps25
    go_wp2
    go_ret2
    exact ⟨txt_two HV.out, 0, rfl⟩
  · have d2 := txt_f q1
    have hlt2 : 2 < t.size := by omega
    obtain ⟨x, hx⟩ : ∃ x, (t[2]'hlt2).toNat = x := ⟨_, rfl⟩
    have hxl : x < 256 := by rw [← hx]; exact UInt8.toNat_lt _
    have HX : Hid (bt t 2 = x) := Lib.hid (by rw [← bt_is hlt2]; exact hx)
    have hlt3 : 3 < t.size := by omega
    obtain ⟨y, hy⟩ : ∃ y, (t[3]'hlt3).toNat = y := ⟨_, rfl⟩
    have hyl : y < 256 := by rw [← hy]; exact UInt8.toNat_lt _
    have HY : Hid (bt t 3 = y) := Lib.hid (by rw [← bt_is hlt3]; exact hy)
    obtain ⟨u, hu⟩ : ∃ u, valueS x = u := ⟨_, rfl⟩
    obtain ⟨v, hv⟩ : ∃ v, valueS y = v := ⟨_, rfl⟩
    have hub := valueS_bounds x
    have hvb := valueS_bounds y
    rw [hu] at hub
    rw [hv] at hvb
    have HU := Lib.hid hu
    have HW := Lib.hid hv
    clear hu hv
    by_cases q3 : u < 0
    · have d4 := txt_t q3
      have HV : Hid (escS t 0 120 = (0, 0)) := Lib.hid (by rw [esc_hex, show bt t (0 + 2) = x from HX.out, show bt t (0 + 3) = y from HY.out, HU.out, HW.out, if_neg (by omega)])
      go_enter Try.func25, Try.ntmps25
      go_wp2_with fail
      go_quiet (first | (with_reducible exact (lexHexV x hxl _ HU.out _).mono fun _ _ h => ⟨h.1, _, h.2.symm⟩) | (with_reducible exact (lexHexV y hyl _ HW.out _).mono fun _ _ h => ⟨h.1, _, h.2.symm⟩))
      go_wp2
      go_ret2
      exact ⟨txt_two HV.out, _, rfl⟩
    · have d4 := txt_f q3
      by_cases q5 : v < 0
      · have d6 := txt_t q5
        have HV : Hid (escS t 0 120 = (0, 0)) := Lib.hid (by rw [esc_hex, show bt t (0 + 2) = x from HX.out, show bt t (0 + 3) = y from HY.out, HU.out, HW.out, if_neg (by omega)])
        go_enter Try.func25, Try.ntmps25
        go_wp2_with fail
        go_quiet (first | (with_reducible exact (lexHexV x hxl _ HU.out _).mono fun _ _ h => ⟨h.1, _, h.2.symm⟩) | (with_reducible exact (lexHexV y hyl _ HW.out _).mono fun _ _ h => ⟨h.1, _, h.2.symm⟩))
        go_wp2
        go_ret2
        exact ⟨txt_two HV.out, _, rfl⟩
      · have d6 := txt_f q5
        have HV : Hid (escS t 0 120 = (16 * u + v, 4)) := Lib.hid (by rw [esc_hex, show bt t (0 + 2) = x from HX.out, show bt t (0 + 3) = y from HY.out, HU.out, HW.out, if_pos ⟨by omega, by omega, by omega⟩])
        obtain ⟨u', rfl⟩ : ∃ u' : Nat, u = (u' : Int) := ⟨u.toNat, by omega⟩
        obtain ⟨v', rfl⟩ : ∃ v' : Nat, v = (v' : Int) := ⟨v.toNat, by omega⟩
        have ho : bits .or .i64 ((u' : Int) * 16) (v' : Int) = 16 * (u' : Int) + (v' : Int) := hex_or ⟨u', by omega⟩ ⟨v', by omega⟩
        have w8 : IntKind.u8.wrap (16 * (u' : Int) + (v' : Int)) = 16 * (u' : Int) + (v' : Int) := by rw [IntKind.wrap_u8']; omega
        have w6 : IntKind.i64.wrap ((u' : Int) * 16) = (u' : Int) * 16 := by rw [IntKind.wrap_i64]; omega
        go_enter Try.func25, Try.ntmps25
        go_wp2_with fail
        go_quiet (first | (with_reducible exact (lexHexV x hxl _ HU.out _).mono fun _ _ h => ⟨h.1, _, h.2.symm⟩) | (with_reducible exact (lexHexV y hyl _ HW.out _).mono fun _ _ h => ⟨h.1, _, h.2.symm⟩))
        go_wp2
        go_ret2
        exact ⟨txt_two HV.out, _, rfl⟩

def escT (t : ByteArray) : Int × Int := if t.size ≤ 1 then (0, 0) else escS t 0 (bt t 1)
theorem escT_of {t : ByteArray} {d : Nat} (h : 1 < t.size) (e : bt t 1 = d) : escT t = escS t 0 d := by unfold escT; rw [if_neg (by omega), e]

set_option maxRecDepth 100000 in
set_option maxHeartbeats 4000000 in
theorem lexEscape (t : ByteArray) (hs : t.size ≤ 20000) (w : World) :
    Calls Try.prog 12 #[.string t] w fun e w' => e = .returned (.tuple #[.int .u8 (escT t).1, .int .i64 (escT t).2]) ∧ ∃ n, w' = w.drewN n := by
  by_cases q7 : (t.size : Int) < 2
  · have d8 := txt_t q7
    have HV : Hid (escT t = (0, 0)) := Lib.hid (by unfold escT; rw [if_pos (by omega)])
    go_enter Try.func12, Try.ntmps12
    go_wp2
    go_ret2
    exact ⟨txt_two HV.out, 0, rfl⟩
  · have d8 := txt_f q7
    have hlt1 : 1 < t.size := by omega
    obtain ⟨d, hd⟩ : ∃ d, (t[1]'hlt1).toNat = d := ⟨_, rfl⟩
    have hdl : d < 256 := by rw [← hd]; exact UInt8.toNat_lt _
    have HD : Hid (bt t 1 = d) := Lib.hid (by rw [← bt_is hlt1]; exact hd)
    by_cases q9 : d = 110
    · have e10i : ((d : Int) == 110) = true := by rw [beq_iff_eq]; omega
      have e10n : (d == 110) = true := by rw [beq_iff_eq]; omega
      have e10j : ((d : Int) != 110) = false := by rw [bne, e10i]; rfl
      have e10m : (d != 110) = false := by rw [bne, e10n]; rfl
      have HV : Hid (escT t = (10, 2)) := Lib.hid (by rw [escT_of hlt1 HD.out]; unfold escS; rw [if_pos (by omega)])
      go_enter Try.func12, Try.ntmps12
      go_wp2
      go_ret2
      exact ⟨txt_two HV.out, 0, rfl⟩
    · have e10i : ((d : Int) == 110) = false := beq_eq_false_iff_ne.2 (by omega)
      have e10n : (d == 110) = false := beq_eq_false_iff_ne.2 (by omega)
      have e10j : ((d : Int) != 110) = true := by rw [bne, e10i]; rfl
      have e10m : (d != 110) = true := by rw [bne, e10n]; rfl
      by_cases q11 : d = 116
      · have e12i : ((d : Int) == 116) = true := by rw [beq_iff_eq]; omega
        have e12n : (d == 116) = true := by rw [beq_iff_eq]; omega
        have e12j : ((d : Int) != 116) = false := by rw [bne, e12i]; rfl
        have e12m : (d != 116) = false := by rw [bne, e12n]; rfl
        have HV : Hid (escT t = (9, 2)) := Lib.hid (by rw [escT_of hlt1 HD.out]; unfold escS; rw [if_neg (by omega)]; rw [if_pos (by omega)])
        go_enter Try.func12, Try.ntmps12
        go_wp2
        go_ret2
        exact ⟨txt_two HV.out, 0, rfl⟩
      · have e12i : ((d : Int) == 116) = false := beq_eq_false_iff_ne.2 (by omega)
        have e12n : (d == 116) = false := beq_eq_false_iff_ne.2 (by omega)
        have e12j : ((d : Int) != 116) = true := by rw [bne, e12i]; rfl
        have e12m : (d != 116) = true := by rw [bne, e12n]; rfl
        by_cases q13 : d = 114
        · have e14i : ((d : Int) == 114) = true := by rw [beq_iff_eq]; omega
          have e14n : (d == 114) = true := by rw [beq_iff_eq]; omega
          have e14j : ((d : Int) != 114) = false := by rw [bne, e14i]; rfl
          have e14m : (d != 114) = false := by rw [bne, e14n]; rfl
          have HV : Hid (escT t = (13, 2)) := Lib.hid (by rw [escT_of hlt1 HD.out]; unfold escS; rw [if_neg (by omega)]; rw [if_neg (by omega)]; rw [if_pos (by omega)])
          go_enter Try.func12, Try.ntmps12
          go_wp2
          go_ret2
          exact ⟨txt_two HV.out, 0, rfl⟩
        · have e14i : ((d : Int) == 114) = false := beq_eq_false_iff_ne.2 (by omega)
          have e14n : (d == 114) = false := beq_eq_false_iff_ne.2 (by omega)
          have e14j : ((d : Int) != 114) = true := by rw [bne, e14i]; rfl
          have e14m : (d != 114) = true := by rw [bne, e14n]; rfl
          by_cases q15 : d = 115
          · have e16i : ((d : Int) == 115) = true := by rw [beq_iff_eq]; omega
            have e16n : (d == 115) = true := by rw [beq_iff_eq]; omega
            have e16j : ((d : Int) != 115) = false := by rw [bne, e16i]; rfl
            have e16m : (d != 115) = false := by rw [bne, e16n]; rfl
            have HV : Hid (escT t = (32, 2)) := Lib.hid (by rw [escT_of hlt1 HD.out]; unfold escS; rw [if_neg (by omega)]; rw [if_neg (by omega)]; rw [if_neg (by omega)]; rw [if_pos (by omega)])
            go_enter Try.func12, Try.ntmps12
            go_wp2
            go_ret2
            exact ⟨txt_two HV.out, 0, rfl⟩
          · have e16i : ((d : Int) == 115) = false := beq_eq_false_iff_ne.2 (by omega)
            have e16n : (d == 115) = false := beq_eq_false_iff_ne.2 (by omega)
            have e16j : ((d : Int) != 115) = true := by rw [bne, e16i]; rfl
            have e16m : (d != 115) = true := by rw [bne, e16n]; rfl
            by_cases hd120 : d = 120
            · have e17i : ((d : Int) == 120) = true := by rw [beq_iff_eq]; omega
              have e17n : (d == 120) = true := by rw [beq_iff_eq]; omega
              have e17j : ((d : Int) != 120) = false := by rw [bne, e17i]; rfl
              have e17m : (d != 120) = false := by rw [bne, e17n]; rfl
              have HV : Hid (escT t = escS t 0 120) := Lib.hid (by rw [escT_of hlt1 HD.out, hd120])
              go_enter Try.func12, Try.ntmps12
              go_wp2_with fail
              refine (lexHexEsc t hs _).mono ?_
              rintro e w3 ⟨rfl, n, rfl⟩
              go_wp2
              go_ret2
              exact ⟨txt_two HV.out, n, rfl⟩
            · have e17i : ((d : Int) == 120) = false := beq_eq_false_iff_ne.2 (by omega)
              have e17n : (d == 120) = false := beq_eq_false_iff_ne.2 (by omega)
              have e17j : ((d : Int) != 120) = true := by rw [bne, e17i]; rfl
              have e17m : (d != 120) = true := by rw [bne, e17n]; rfl
              obtain ⟨v, hv⟩ : ∃ v, alphaS d = v := ⟨_, rfl⟩
              have HA := Lib.hid hv
              clear hv
              rcases v with _ | _
              · by_cases hg : 48 ≤ d ∧ d ≤ 57
                · have HG : Hid (digS d = true) := Lib.hid (decide_eq_true (by omega))
                  have HV : Hid (escT t = (0, 0)) := Lib.hid (by rw [escT_of hlt1 HD.out]; unfold escS; rw [if_neg (by omega)]; rw [if_neg (by omega)]; rw [if_neg (by omega)]; rw [if_neg (by omega)]; rw [if_neg (by omega)]; rw [if_pos (Or.inr (by omega))])
                  go_enter Try.func12, Try.ntmps12
                  go_wp2_with fail
                  refine (lexLetterV d hdl false HA.out _).mono ?_
                  rintro e w3 ⟨rfl, rfl⟩
                  go_wp2_with fail
                  refine (lexDigitV d hdl true HG.out _).mono ?_
                  rintro e w3 ⟨rfl, rfl⟩
                  go_wp2
                  go_ret2
                  exact ⟨txt_two HV.out, 0, rfl⟩
                · have HG : Hid (digS d = false) := Lib.hid (decide_eq_false (by omega))
                  have HV : Hid (escT t = ((d : Int), 2)) := Lib.hid (by rw [escT_of hlt1 HD.out]; unfold escS; rw [if_neg (by omega)]; rw [if_neg (by omega)]; rw [if_neg (by omega)]; rw [if_neg (by omega)]; rw [if_neg (by omega)]; rw [if_neg (fun z : alphaS d = true ∨ (48 ≤ d ∧ d ≤ 57) => z.elim (fun t => by rw [HA.out] at t; cases t) (fun t => by omega))])
                  go_enter Try.func12, Try.ntmps12
                  go_wp2_with fail
                  refine (lexLetterV d hdl false HA.out _).mono ?_
                  rintro e w3 ⟨rfl, rfl⟩
                  go_wp2_with fail
                  refine (lexDigitV d hdl false HG.out _).mono ?_
                  rintro e w3 ⟨rfl, rfl⟩
                  go_wp2
                  go_ret2
                  exact ⟨txt_two HV.out, 0, rfl⟩
              · have HV : Hid (escT t = (0, 0)) := Lib.hid (by rw [escT_of hlt1 HD.out]; unfold escS; rw [if_neg (by omega)]; rw [if_neg (by omega)]; rw [if_neg (by omega)]; rw [if_neg (by omega)]; rw [if_neg (by omega)]; rw [if_pos (Or.inl HA.out)])
                go_enter Try.func12, Try.ntmps12
                go_wp2_with fail
                refine (lexLetterV d hdl true HA.out _).mono ?_
                rintro e w3 ⟨rfl, rfl⟩
                go_wp2
                go_ret2
                exact ⟨txt_two HV.out, 0, rfl⟩

theorem char_at_esc {t own : ByteArray} (h : 0 < t.size) (e : bt t 0 = 92) : charS t 0 own = escT t := by
  unfold charS escT; rw [if_neg (by omega), if_neg (by rw [e]; exact fun x => x rfl)]
def ownN : Nat → Bool := fun b => decide (b = 93 ∨ b = 45 ∨ b = 91 ∨ b = 94)
theorem inS_ownC (b : Nat) : inS ownC b = ownN b := by
  have h : inS ownC b = ((93 == b) || ((45 == b) || ((91 == b) || ((94 == b) || false)))) := rfl
  rw [h]
  unfold ownN
  by_cases h1 : b = 93
  · subst h1; rfl
  by_cases h2 : b = 45
  · subst h2; rfl
  by_cases h3 : b = 91
  · subst h3; rfl
  by_cases h4 : b = 94
  · subst h4; rfl
  rw [beq_eq_false_iff_ne.2 (Ne.symm h1), beq_eq_false_iff_ne.2 (Ne.symm h2), beq_eq_false_iff_ne.2 (Ne.symm h3), beq_eq_false_iff_ne.2 (Ne.symm h4), decide_eq_false (by omega)]
  rfl
theorem text_some {t : ByteArray} (h : 0 < t.size) : t.toList.isEmpty = false := by
  rw [Lib.toList_data, List.isEmpty_eq_false_iff]
  intro e
  rw [Lib.size_eq, e] at h
  exact absurd h (by decide)

set_option maxRecDepth 100000 in
set_option maxHeartbeats 4000000 in
theorem lexSingle (t : ByteArray) (hs : t.size ≤ 20000) (w : World) :
    Calls Try.prog 43 #[.string t] w fun e w' => e = .returned (.tuple #[.int .u8 (charS t 0 ownC).1, .int .i64 (charS t 0 ownC).2]) ∧ ∃ n, w' = w.drewN n := by
  by_cases h0 : t.size = 0
  · have he : t = ⟨#[]⟩ := by
      cases t with
      | mk a => cases a with
        | mk l => cases l with
          | nil => rfl
          | cons x r => simp [ByteArray.size] at h0
    subst he
    have HV : Hid (charS ⟨#[]⟩ 0 ownC = (0, 0)) := Lib.hid (char_past (Nat.le_refl _))
    go_enter Try.func43, Try.ntmps43
    go_wp2
    go_ret2
    exact ⟨txt_two HV.out, 0, rfl⟩
  · have hlt0 : 0 < t.size := by omega
    obtain ⟨b, hb⟩ : ∃ b, (t[0]'hlt0).toNat = b := ⟨_, rfl⟩
    have hbl : b < 256 := by rw [← hb]; exact UInt8.toNat_lt _
    have HB : Hid (bt t 0 = b) := Lib.hid (by rw [← bt_is hlt0]; exact hb)
    have ne0 := text_some hlt0
    by_cases hb92 : b = 92
    · have e18i : ((b : Int) == 92) = true := by rw [beq_iff_eq]; omega
      have e18n : (b == 92) = true := by rw [beq_iff_eq]; omega
      have e18j : ((b : Int) != 92) = false := by rw [bne, e18i]; rfl
      have e18m : (b != 92) = false := by rw [bne, e18n]; rfl
      have HV : Hid (charS t 0 ownC = escT t) := Lib.hid (char_at_esc hlt0 (by rw [HB.out]; exact hb92))
      go_enter Try.func43, Try.ntmps43
      go_wp2_with fail
      refine (lexEscape t hs _).mono ?_
      rintro e w3 ⟨rfl, n, rfl⟩
      go_wp2
      go_ret2
      exact ⟨txt_two HV.out, n, rfl⟩
    · have e18i : ((b : Int) == 92) = false := beq_eq_false_iff_ne.2 (by omega)
      have e18n : (b == 92) = false := beq_eq_false_iff_ne.2 (by omega)
      have e18j : ((b : Int) != 92) = true := by rw [bne, e18i]; rfl
      have e18m : (b != 92) = true := by rw [bne, e18n]; rfl
      by_cases q19 : b = 93
      · have e20i : ((b : Int) == 93) = true := by rw [beq_iff_eq]; omega
        have e20n : (b == 93) = true := by rw [beq_iff_eq]; omega
        have e20j : ((b : Int) != 93) = false := by rw [bne, e20i]; rfl
        have e20m : (b != 93) = false := by rw [bne, e20n]; rfl
        have HV : Hid (charS t 0 ownC = (0, 0)) := Lib.hid (char_own hlt0 HB.out (by omega) (by rw [inS_ownC]; exact decide_eq_true (by omega)))
        go_enter Try.func43, Try.ntmps43
        go_wp2
        go_ret2
        exact ⟨txt_two HV.out, 0, rfl⟩
      · have e20i : ((b : Int) == 93) = false := beq_eq_false_iff_ne.2 (by omega)
        have e20n : (b == 93) = false := beq_eq_false_iff_ne.2 (by omega)
        have e20j : ((b : Int) != 93) = true := by rw [bne, e20i]; rfl
        have e20m : (b != 93) = true := by rw [bne, e20n]; rfl
        by_cases q21 : b = 45
        · have e22i : ((b : Int) == 45) = true := by rw [beq_iff_eq]; omega
          have e22n : (b == 45) = true := by rw [beq_iff_eq]; omega
          have e22j : ((b : Int) != 45) = false := by rw [bne, e22i]; rfl
          have e22m : (b != 45) = false := by rw [bne, e22n]; rfl
          have HV : Hid (charS t 0 ownC = (0, 0)) := Lib.hid (char_own hlt0 HB.out (by omega) (by rw [inS_ownC]; exact decide_eq_true (by omega)))
          go_enter Try.func43, Try.ntmps43
          go_wp2
          go_ret2
          exact ⟨txt_two HV.out, 0, rfl⟩
        · have e22i : ((b : Int) == 45) = false := beq_eq_false_iff_ne.2 (by omega)
          have e22n : (b == 45) = false := beq_eq_false_iff_ne.2 (by omega)
          have e22j : ((b : Int) != 45) = true := by rw [bne, e22i]; rfl
          have e22m : (b != 45) = true := by rw [bne, e22n]; rfl
          by_cases q23 : b = 91
          · have e24i : ((b : Int) == 91) = true := by rw [beq_iff_eq]; omega
            have e24n : (b == 91) = true := by rw [beq_iff_eq]; omega
            have e24j : ((b : Int) != 91) = false := by rw [bne, e24i]; rfl
            have e24m : (b != 91) = false := by rw [bne, e24n]; rfl
            have HV : Hid (charS t 0 ownC = (0, 0)) := Lib.hid (char_own hlt0 HB.out (by omega) (by rw [inS_ownC]; exact decide_eq_true (by omega)))
            go_enter Try.func43, Try.ntmps43
            go_wp2
            go_ret2
            exact ⟨txt_two HV.out, 0, rfl⟩
          · have e24i : ((b : Int) == 91) = false := beq_eq_false_iff_ne.2 (by omega)
            have e24n : (b == 91) = false := beq_eq_false_iff_ne.2 (by omega)
            have e24j : ((b : Int) != 91) = true := by rw [bne, e24i]; rfl
            have e24m : (b != 91) = true := by rw [bne, e24n]; rfl
            by_cases q25 : b = 94
            · have e26i : ((b : Int) == 94) = true := by rw [beq_iff_eq]; omega
              have e26n : (b == 94) = true := by rw [beq_iff_eq]; omega
              have e26j : ((b : Int) != 94) = false := by rw [bne, e26i]; rfl
              have e26m : (b != 94) = false := by rw [bne, e26n]; rfl
              have HV : Hid (charS t 0 ownC = (0, 0)) := Lib.hid (char_own hlt0 HB.out (by omega) (by rw [inS_ownC]; exact decide_eq_true (by omega)))
              go_enter Try.func43, Try.ntmps43
              go_wp2
              go_ret2
              exact ⟨txt_two HV.out, 0, rfl⟩
            · have e26i : ((b : Int) == 94) = false := beq_eq_false_iff_ne.2 (by omega)
              have e26n : (b == 94) = false := beq_eq_false_iff_ne.2 (by omega)
              have e26j : ((b : Int) != 94) = true := by rw [bne, e26i]; rfl
              have e26m : (b != 94) = true := by rw [bne, e26n]; rfl
              have HV : Hid (charS t 0 ownC = ((b : Int), 1)) := Lib.hid (char_self hlt0 HB.out (by omega) (by rw [inS_ownC]; exact decide_eq_false (by omega)))
              go_enter Try.func43, Try.ntmps43
              go_wp2
              go_ret2
              exact ⟨txt_two HV.out, 0, rfl⟩

end Go.Proofs.Ytdcldhkpmihahaa
