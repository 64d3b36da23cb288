/- What the reference's char answers: a byte that stands at a place, by itself or escaped. -/
import Derived.Test.YtdcldhkpmihahaaTextB
import Derived.Deep.QuietTactic
import Derived.BigQuiet
namespace Go.Proofs.Ytdcldhkpmihahaa
open Go.RowKit
set_option linter.unusedSimpArgs false
set_option linter.unusedVariables false

/-- Behind a backslash: the byte and how many bytes it takes. -/
def escS (s : ByteArray) (at_ : Nat) (d : Nat) : Int × Int :=
  if d = 110 then (10, 2) else if d = 116 then (9, 2) else if d = 114 then (13, 2) else if d = 115 then (32, 2)
  else if d = 120 then (if at_ + 3 < s.size ∧ 0 ≤ valueS (bt s (at_ + 2)) ∧ 0 ≤ valueS (bt s (at_ + 3)) then (16 * valueS (bt s (at_ + 2)) + valueS (bt s (at_ + 3)), 4) else (0, 0))
  else if alphaS d = true ∨ (48 ≤ d ∧ d ≤ 57) then (0, 0) else ((d : Int), 2)
/-- A byte that stands at a place, and how many bytes that takes. -/
def charS (s : ByteArray) (at_ : Nat) (own : ByteArray) : Int × Int :=
  if s.size ≤ at_ then (0, 0)
  else if bt s at_ ≠ 92 then (if inS own (bt s at_) = true then (0, 0) else ((bt s at_ : Int), 1))
  else if s.size ≤ at_ + 1 then (0, 0)
  else escS s at_ (bt s (at_ + 1))
theorem char_past {s own : ByteArray} {p : Nat} (h : s.size ≤ p) : charS s p own = (0, 0) := by unfold charS; rw [if_pos h]
theorem char_own {s own : ByteArray} {p b : Nat} (h : p < s.size) (hb : bt s p = b) (n : ¬ b = 92) (e : inS own b = true) : charS s p own = (0, 0) := by unfold charS; rw [if_neg (by omega), hb, if_pos n, if_pos e]
theorem char_self {s own : ByteArray} {p b : Nat} (h : p < s.size) (hb : bt s p = b) (n : ¬ b = 92) (e : inS own b = false) : charS s p own = ((b : Int), 1) := by unfold charS; rw [if_neg (by omega), hb, if_pos n, if_neg (by rw [e]; exact Bool.false_ne_true)]
theorem char_half {s own : ByteArray} {p : Nat} (h : p < s.size) (hb : bt s p = 92) (n : s.size ≤ p + 1) : charS s p own = (0, 0) := by unfold charS; rw [if_neg (by omega), if_neg (by rw [hb]; exact fun x => x rfl), if_pos n]
theorem char_esc {s own : ByteArray} {p d : Nat} (hb : bt s p = 92) (n : p + 1 < s.size) (hd : bt s (p + 1) = d) : charS s p own = escS s p d := by unfold charS; rw [if_neg (by omega), if_neg (by rw [hb]; exact fun x => x rfl), if_neg (by omega), hd]
theorem esc_bounds (s : ByteArray) (p d : Nat) (hd : d < 256) : 0 ≤ (escS s p d).1 ∧ (escS s p d).1 ≤ 255 ∧ 0 ≤ (escS s p d).2 ∧ (escS s p d).2 ≤ 4 := by
  have v1 := valueS_bounds (bt s (p + 2))
  have v2 := valueS_bounds (bt s (p + 3))
  unfold escS; (repeat' split) <;> (refine ⟨?_, ?_, ?_, ?_⟩ <;> (dsimp only; omega))
theorem char_bounds (s : ByteArray) (p : Nat) (own : ByteArray) : 0 ≤ (charS s p own).1 ∧ (charS s p own).1 ≤ 255 ∧ 0 ≤ (charS s p own).2 ∧ (charS s p own).2 ≤ 4 := by
  have b1 := bt_lt s p
  have b2 := esc_bounds s p (bt s (p + 1)) (bt_lt s (p + 1))
  unfold charS; (repeat' split) <;> (first | exact b2 | (refine ⟨?_, ?_, ?_, ?_⟩ <;> (dsimp only; omega)))
theorem txt_two {k l : IntKind} {a b : Int} {x : Int × Int} (h : x = (a, b)) : Ending.returned (.tuple #[.int k a, .int l b]) = .returned (.tuple #[.int k x.1, .int l x.2]) := by rw [h]
theorem refInV (s : ByteArray) (c : Nat) (hs : s.size ≤ 9223372036854775807) (v : Bool) (hv : inS s c = v) (w : World) : Calls Try.prog 10 #[.string s, .int .u8 c] w fun e w' => e = .returned (.bool v) ∧ w = w' := by
  rw [← hv]; exact refIn s c hs w
theorem refValueV (c : Nat) (hc : c < 256) (v : Int) (hv : valueS c = v) (w : World) : Calls Try.prog 39 #[.int .u8 c] w fun e w' => e = .returned (.int .i64 v) ∧ w = w' := by
  rw [← hv]; exact refValue c (by omega) (by omega) w

set_option maxRecDepth 100000 in
set_option maxHeartbeats 4000000 in
theorem char_hex (s : ByteArray) (p : Nat) (own : ByteArray) (hs : s.size ≤ 20000) (hp : p ≤ 20000) (ho : own.size ≤ 9223372036854775807) (w : World) (b d x y : Nat) (u v : Int)
    (hlt : p < s.size) (hb : (s[p]'hlt).toNat = b) (hlt2 : p + 1 < s.size) (hd : (s[p + 1]'hlt2).toNat = d) (hlt3 : p + 2 < s.size) (hx : (s[p + 2]'hlt3).toNat = x) (hlt4 : p + 3 < s.size) (hy : (s[p + 3]'hlt4).toNat = y)
    (hxl : x < 256) (hyl : y < 256) (a1 : b = 92) (q4 : d = 120) (HU : Hid (valueS x = u)) (HW : Hid (valueS y = v)) (hub : -1 ≤ u ∧ u ≤ 15) (hvb : -1 ≤ v ∧ v ≤ 15) (a4 : (0 : Int) ≤ u) (a5 : (0 : Int) ≤ v) (HV : Hid (charS s p own = (16 * u + v, 4))) :
    Calls Try.prog 24 #[.string s, .int .i64 p, .string own] w fun e w' => e = .returned (.tuple #[.int .u8 (charS s p own).1, .int .i64 (charS s p own).2]) ∧ ∃ n, w' = w.drewN n := by
  have d0 : decide ((s.size : Int) ≤ (p : Int)) = false := txt_f (by omega)
  have d2 : decide ((s.size : Int) ≤ (p : Int) + 1) = false := txt_f (by omega)
  have d3 : decide ((p : Int) + 3 < (s.size : Int)) = true := txt_t (by omega)
  have d4 := txt_t a4
  have d5 := txt_t a5
  have e0i : ((b : Int) == 92) = true := by rw [beq_iff_eq]; omega
  have e0n : (b == 92) = true := by rw [beq_iff_eq]; omega
  have e0j : ((b : Int) != 92) = false := by rw [bne, e0i]; rfl
  have e0m : (b != 92) = false := by rw [bne, e0n]; rfl
  have g0i : ((d : Int) == 110) = false := beq_eq_false_iff_ne.2 (by omega)
  have g0n : (d == 110) = false := beq_eq_false_iff_ne.2 (by omega)
  have g1i : ((d : Int) == 116) = false := beq_eq_false_iff_ne.2 (by omega)
  have g1n : (d == 116) = false := beq_eq_false_iff_ne.2 (by omega)
  have g2i : ((d : Int) == 114) = false := beq_eq_false_iff_ne.2 (by omega)
  have g2n : (d == 114) = false := beq_eq_false_iff_ne.2 (by omega)
  have g3i : ((d : Int) == 115) = false := beq_eq_false_iff_ne.2 (by omega)
  have g3n : (d == 115) = false := beq_eq_false_iff_ne.2 (by omega)
  have g4i : ((d : Int) == 120) = true := by rw [beq_iff_eq]; omega
  have g4n : (d == 120) = true := by rw [beq_iff_eq]; omega
  have g4j : ((d : Int) != 120) = false := by rw [bne, g4i]; rfl
  have g4m : (d != 120) = false := by rw [bne, g4n]; rfl
  go_enter Try.func24, Try.ntmps24
  go_wp2_with fail
  refine (refValueV x hxl u HU.out _).mono ?_
  rintro e w3 ⟨rfl, rfl⟩
  go_wp2_with fail
  refine (refValueV y hyl v HW.out _).mono ?_
  rintro e w3 ⟨rfl, rfl⟩
  go_wp2_with fail
  go_quiet (first | (with_reducible exact (refValueV x hxl u HU.out _).mono fun _ _ h => ⟨h.1, _, h.2.symm⟩) | (with_reducible exact (refValueV y hyl v HW.out _).mono fun _ _ h => ⟨h.1, _, h.2.symm⟩))
  go_wp2
  go_ret2
  exact ⟨txt_two HV.out, _, rfl⟩

set_option maxRecDepth 100000 in
set_option maxHeartbeats 4000000 in
theorem refChar (s : ByteArray) (p : Nat) (own : ByteArray) (hs : s.size ≤ 20000) (hp : p ≤ 20000) (ho : own.size ≤ 9223372036854775807) (w : World) :
    Calls Try.prog 24 #[.string s, .int .i64 p, .string own] w fun e w' => e = .returned (.tuple #[.int .u8 (charS s p own).1, .int .i64 (charS s p own).2]) ∧ ∃ n, w' = w.drewN n := by
  by_cases a0 : (s.size : Int) ≤ (p : Int)
  · have d0 := txt_t a0
    have HV : Hid (charS s p own = (0, 0)) := Lib.hid (char_past (by omega))
    go_enter Try.func24, Try.ntmps24
    go_wp2
    go_ret2
    exact ⟨txt_two HV.out, 0, rfl⟩
  · have d0 := txt_f a0
    have hlt : p < s.size := by omega
    obtain ⟨b, hb⟩ : ∃ b, (s[p]'hlt).toNat = b := ⟨_, rfl⟩
    have hl : b < 256 := by rw [← hb]; exact UInt8.toNat_lt _
    have HBt : Hid (bt s p = b) := Lib.hid (by rw [← bt_is hlt]; exact hb)
    by_cases a1 : b = 92
    · have B92 : Hid (bt s p = 92) := Lib.hid (by rw [HBt.out]; exact a1)
      have e0i : ((b : Int) == 92) = true := by rw [beq_iff_eq]; omega
      have e0n : (b == 92) = true := by rw [beq_iff_eq]; omega
      have e0j : ((b : Int) != 92) = false := by rw [bne, e0i]; rfl
      have e0m : (b != 92) = false := by rw [bne, e0n]; rfl
      by_cases a2 : (s.size : Int) ≤ (p : Int) + 1
      · have d2 := txt_t a2
        have HV : Hid (charS s p own = (0, 0)) := Lib.hid (char_half hlt B92.out (by omega))
        clear a1
        go_enter Try.func24, Try.ntmps24
        go_wp2
        go_ret2
        exact ⟨txt_two HV.out, 0, rfl⟩
      · have d2 := txt_f a2
        have hlt2 : p + 1 < s.size := by omega
        obtain ⟨d, hd⟩ : ∃ d, (s[p + 1]'hlt2).toNat = d := ⟨_, rfl⟩
        have hdl : d < 256 := by rw [← hd]; exact UInt8.toNat_lt _
        have HDt : Hid (bt s (p + 1) = d) := Lib.hid (by rw [← bt_is hlt2]; exact hd)
        have HC : Hid (charS s p own = escS s p d) := Lib.hid (char_esc B92.out hlt2 HDt.out)
        by_cases q0 : d = 110
        · have HV : Hid (charS s p own = (10, 2)) := Lib.hid (by rw [HC.out]; unfold escS; rw [if_pos q0])
          have g0i : ((d : Int) == 110) = true := by rw [beq_iff_eq]; omega
          have g0n : (d == 110) = true := by rw [beq_iff_eq]; omega
          have g0j : ((d : Int) != 110) = false := by rw [bne, g0i]; rfl
          have g0m : (d != 110) = false := by rw [bne, g0n]; rfl
          go_enter Try.func24, Try.ntmps24
          go_wp2
          go_ret2
          exact ⟨txt_two HV.out, 0, rfl⟩
        · have g0i : ((d : Int) == 110) = false := beq_eq_false_iff_ne.2 (by omega)
          have g0n : (d == 110) = false := beq_eq_false_iff_ne.2 (by omega)
          have g0j : ((d : Int) != 110) = true := by rw [bne, g0i]; rfl
          have g0m : (d != 110) = true := by rw [bne, g0n]; rfl
          by_cases q1 : d = 116
          · have HV : Hid (charS s p own = (9, 2)) := Lib.hid (by rw [HC.out]; unfold escS; rw [if_neg q0]; rw [if_pos q1])
            have g1i : ((d : Int) == 116) = true := by rw [beq_iff_eq]; omega
            have g1n : (d == 116) = true := by rw [beq_iff_eq]; omega
            have g1j : ((d : Int) != 116) = false := by rw [bne, g1i]; rfl
            have g1m : (d != 116) = false := by rw [bne, g1n]; rfl
            go_enter Try.func24, Try.ntmps24
            go_wp2
            go_ret2
            exact ⟨txt_two HV.out, 0, rfl⟩
          · have g1i : ((d : Int) == 116) = false := beq_eq_false_iff_ne.2 (by omega)
            have g1n : (d == 116) = false := beq_eq_false_iff_ne.2 (by omega)
            have g1j : ((d : Int) != 116) = true := by rw [bne, g1i]; rfl
            have g1m : (d != 116) = true := by rw [bne, g1n]; rfl
            by_cases q2 : d = 114
            · have HV : Hid (charS s p own = (13, 2)) := Lib.hid (by rw [HC.out]; unfold escS; rw [if_neg q0]; rw [if_neg q1]; rw [if_pos q2])
              have g2i : ((d : Int) == 114) = true := by rw [beq_iff_eq]; omega
              have g2n : (d == 114) = true := by rw [beq_iff_eq]; omega
              have g2j : ((d : Int) != 114) = false := by rw [bne, g2i]; rfl
              have g2m : (d != 114) = false := by rw [bne, g2n]; rfl
              go_enter Try.func24, Try.ntmps24
              go_wp2
              go_ret2
              exact ⟨txt_two HV.out, 0, rfl⟩
            · have g2i : ((d : Int) == 114) = false := beq_eq_false_iff_ne.2 (by omega)
              have g2n : (d == 114) = false := beq_eq_false_iff_ne.2 (by omega)
              have g2j : ((d : Int) != 114) = true := by rw [bne, g2i]; rfl
              have g2m : (d != 114) = true := by rw [bne, g2n]; rfl
              by_cases q3 : d = 115
              · have HV : Hid (charS s p own = (32, 2)) := Lib.hid (by rw [HC.out]; unfold escS; rw [if_neg q0]; rw [if_neg q1]; rw [if_neg q2]; rw [if_pos q3])
                have g3i : ((d : Int) == 115) = true := by rw [beq_iff_eq]; omega
                have g3n : (d == 115) = true := by rw [beq_iff_eq]; omega
                have g3j : ((d : Int) != 115) = false := by rw [bne, g3i]; rfl
                have g3m : (d != 115) = false := by rw [bne, g3n]; rfl
                go_enter Try.func24, Try.ntmps24
                go_wp2
                go_ret2
                exact ⟨txt_two HV.out, 0, rfl⟩
              · have g3i : ((d : Int) == 115) = false := beq_eq_false_iff_ne.2 (by omega)
                have g3n : (d == 115) = false := beq_eq_false_iff_ne.2 (by omega)
                have g3j : ((d : Int) != 115) = true := by rw [bne, g3i]; rfl
                have g3m : (d != 115) = true := by rw [bne, g3n]; rfl
                by_cases q4 : d = 120
                · have g4i : ((d : Int) == 120) = true := by rw [beq_iff_eq]; omega
                  have g4n : (d == 120) = true := by rw [beq_iff_eq]; omega
                  have g4j : ((d : Int) != 120) = false := by rw [bne, g4i]; rfl
                  have g4m : (d != 120) = false := by rw [bne, g4n]; rfl
                  by_cases a3 : (p : Int) + 3 < (s.size : Int)
                  · have d3 := txt_t a3
                    have hlt3 : p + 2 < s.size := by omega
                    have hlt4 : p + 3 < s.size := by omega
                    obtain ⟨x, hx⟩ : ∃ x, (s[p + 2]'hlt3).toNat = x := ⟨_, rfl⟩
                    have hxl : x < 256 := by rw [← hx]; exact UInt8.toNat_lt _
                    have HX : Hid (bt s (p + 2) = x) := Lib.hid (by rw [← bt_is hlt3]; exact hx)
                    obtain ⟨y, hy⟩ : ∃ y, (s[p + 3]'hlt4).toNat = y := ⟨_, rfl⟩
                    have hyl : y < 256 := by rw [← hy]; exact UInt8.toNat_lt _
                    have HY : Hid (bt s (p + 3) = y) := Lib.hid (by rw [← bt_is hlt4]; exact hy)
                    obtain ⟨u, hu⟩ : ∃ u, valueS x = u := ⟨_, rfl⟩
                    obtain ⟨v, hv⟩ : ∃ v, valueS y = v := ⟨_, rfl⟩
                    have hub := valueS_bounds x
                    have hvb := valueS_bounds y
                    rw [hu] at hub
                    rw [hv] at hvb
                    have HU := Lib.hid hu
                    have HW := Lib.hid hv
                    clear hu hv
                    by_cases a4 : (0 : Int) ≤ u
                    · have d4 := txt_t a4
                      by_cases a5 : (0 : Int) ≤ v
                      · have d5 := txt_t a5
                        have HV : Hid (charS s p own = (16 * u + v, 4)) := Lib.hid (by rw [HC.out]; unfold escS; rw [if_neg q0]; rw [if_neg q1]; rw [if_neg q2]; rw [if_neg q3]; rw [if_pos q4, HX.out, HY.out, HU.out, HW.out, if_pos ⟨by omega, a4, a5⟩])
                        exact char_hex s p own hs hp ho w b d x y u v hlt hb hlt2 hd hlt3 hx hlt4 hy hxl hyl a1 q4 HU HW hub hvb a4 a5 HV
                      · have d5 := txt_f a5
                        have HV : Hid (charS s p own = (0, 0)) := Lib.hid (by rw [HC.out]; unfold escS; rw [if_neg q0]; rw [if_neg q1]; rw [if_neg q2]; rw [if_neg q3]; rw [if_pos q4, HX.out, HY.out, HU.out, HW.out, if_neg (fun z => a5 z.2.2)])
                        go_enter Try.func24, Try.ntmps24
                        go_wp2_with fail
                        refine (refValueV x hxl u HU.out _).mono ?_
                        rintro e w3 ⟨rfl, rfl⟩
                        go_wp2_with fail
                        refine (refValueV y hyl v HW.out _).mono ?_
                        rintro e w3 ⟨rfl, rfl⟩
                        go_wp2
                        go_ret2
                        exact ⟨txt_two HV.out, 0, rfl⟩
                    · have d4 := txt_f a4
                      have HV : Hid (charS s p own = (0, 0)) := Lib.hid (by rw [HC.out]; unfold escS; rw [if_neg q0]; rw [if_neg q1]; rw [if_neg q2]; rw [if_neg q3]; rw [if_pos q4, HX.out, HY.out, HU.out, HW.out, if_neg (fun z => a4 z.2.1)])
                      go_enter Try.func24, Try.ntmps24
                      go_wp2_with fail
                      refine (refValueV x hxl u HU.out _).mono ?_
                      rintro e w3 ⟨rfl, rfl⟩
                      go_wp2
                      go_ret2
                      exact ⟨txt_two HV.out, 0, rfl⟩
                  · have d3 := txt_f a3
                    have HV : Hid (charS s p own = (0, 0)) := Lib.hid (by rw [HC.out]; unfold escS; rw [if_neg q0]; rw [if_neg q1]; rw [if_neg q2]; rw [if_neg q3]; rw [if_pos q4, if_neg (fun z => a3 (by omega))])
                    go_enter Try.func24, Try.ntmps24
                    go_wp2
                    go_ret2
                    exact ⟨txt_two HV.out, 0, rfl⟩
                · have g4i : ((d : Int) == 120) = false := beq_eq_false_iff_ne.2 (by omega)
                  have g4n : (d == 120) = false := beq_eq_false_iff_ne.2 (by omega)
                  have g4j : ((d : Int) != 120) = true := by rw [bne, g4i]; rfl
                  have g4m : (d != 120) = true := by rw [bne, g4n]; rfl
                  obtain ⟨v, hv⟩ : ∃ v, alphaS d = v := ⟨_, rfl⟩
                  have HA := Lib.hid hv
                  clear hv
                  rcases v with _ | _
                  · by_cases a6 : (48 : Int) ≤ (d : Int)
                    · have d6 := txt_t a6
                      by_cases a7 : (d : Int) ≤ 57
                      · have d7 := txt_t a7
                        have HV : Hid (charS s p own = (0, 0)) := Lib.hid (by rw [HC.out]; unfold escS; rw [if_neg q0]; rw [if_neg q1]; rw [if_neg q2]; rw [if_neg q3]; rw [if_neg q4]; rw [if_pos (Or.inr ⟨by omega, by omega⟩)])
                        go_enter Try.func24, Try.ntmps24
                        go_wp2_with fail
                        refine (refAlphaV d hdl false HA.out _).mono ?_
                        rintro e w3 ⟨rfl, rfl⟩
                        go_wp2
                        go_ret2
                        exact ⟨txt_two HV.out, 0, rfl⟩
                      · have d7 := txt_f a7
                        have HV : Hid (charS s p own = ((d : Int), 2)) := Lib.hid (by rw [HC.out]; unfold escS; rw [if_neg q0]; rw [if_neg q1]; rw [if_neg q2]; rw [if_neg q3]; rw [if_neg q4]; rw [if_neg (fun z : alphaS d = true ∨ (48 ≤ d ∧ d ≤ 57) => z.elim (fun t => by rw [HA.out] at t; cases t) (fun t => by omega))])
                        go_enter Try.func24, Try.ntmps24
                        go_wp2_with fail
                        refine (refAlphaV d hdl false HA.out _).mono ?_
                        rintro e w3 ⟨rfl, rfl⟩
                        go_wp2
                        go_ret2
                        exact ⟨txt_two HV.out, 0, rfl⟩
                    · have d6 := txt_f a6
                      have HV : Hid (charS s p own = ((d : Int), 2)) := Lib.hid (by rw [HC.out]; unfold escS; rw [if_neg q0]; rw [if_neg q1]; rw [if_neg q2]; rw [if_neg q3]; rw [if_neg q4]; rw [if_neg (fun z : alphaS d = true ∨ (48 ≤ d ∧ d ≤ 57) => z.elim (fun t => by rw [HA.out] at t; cases t) (fun t => by omega))])
                      go_enter Try.func24, Try.ntmps24
                      go_wp2_with fail
                      refine (refAlphaV d hdl false HA.out _).mono ?_
                      rintro e w3 ⟨rfl, rfl⟩
                      go_wp2
                      go_ret2
                      exact ⟨txt_two HV.out, 0, rfl⟩
                  · have HV : Hid (charS s p own = (0, 0)) := Lib.hid (by rw [HC.out]; unfold escS; rw [if_neg q0]; rw [if_neg q1]; rw [if_neg q2]; rw [if_neg q3]; rw [if_neg q4]; rw [if_pos (Or.inl HA.out)])
                    go_enter Try.func24, Try.ntmps24
                    go_wp2_with fail
                    refine (refAlphaV d hdl true HA.out _).mono ?_
                    rintro e w3 ⟨rfl, rfl⟩
                    go_wp2
                    go_ret2
                    exact ⟨txt_two HV.out, 0, rfl⟩
    · have e0i : ((b : Int) == 92) = false := beq_eq_false_iff_ne.2 (by omega)
      have e0n : (b == 92) = false := beq_eq_false_iff_ne.2 (by omega)
      have e0j : ((b : Int) != 92) = true := by rw [bne, e0i]; rfl
      have e0m : (b != 92) = true := by rw [bne, e0n]; rfl
      obtain ⟨v, hv⟩ : ∃ v, inS own b = v := ⟨_, rfl⟩
      have HI := Lib.hid hv
      clear hv
      rcases v with _ | _
      · have HV : Hid (charS s p own = ((b : Int), 1)) := Lib.hid (char_self hlt HBt.out a1 HI.out)
        go_enter Try.func24, Try.ntmps24
        go_wp2_with fail
        refine (refInV own b ho false HI.out _).mono ?_
        rintro e w3 ⟨rfl, rfl⟩
        go_wp2
        go_ret2
        exact ⟨txt_two HV.out, 0, rfl⟩
      · have HV : Hid (charS s p own = (0, 0)) := Lib.hid (char_own hlt HBt.out a1 HI.out)
        go_enter Try.func24, Try.ntmps24
        go_wp2_with fail
        refine (refInV own b ho true HI.out _).mono ?_
        rintro e w3 ⟨rfl, rfl⟩
        go_wp2
        go_ret2
        exact ⟨txt_two HV.out, 0, rfl⟩
end Go.Proofs.Ytdcldhkpmihahaa
