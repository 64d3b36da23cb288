/- What stands in the braces of a repeat: the program's bounds. -/
import Derived.Test.YtdcldhkpmihahaaLexTimes
import Derived.Test.YtdcldhkpmihahaaCut
namespace Go.Proofs.Ytdcldhkpmihahaa
open Go.RowKit
set_option linter.unusedSimpArgs false
set_option linter.unusedVariables false

/-- The least and the greatest number of times; none: it isn't formed. c: the place of the comma. -/
def boundsAt (u : ByteArray) (c : Nat) : Option (Int × Int) :=
  if c < u.size then
    (if c + 1 < u.size then (if countS (u.extract 0 c) < 0 ∨ countS (u.extract (c + 1) u.size) < 1 ∨ countS (u.extract (c + 1) u.size) < countS (u.extract 0 c) then none else some (countS (u.extract 0 c), countS (u.extract (c + 1) u.size)))
     else (if countS (u.extract 0 c) < 0 then none else some (countS (u.extract 0 c), -1)))
  else (if countS u < 1 then none else some (countS u, countS u))
def boundsS (u : ByteArray) : Option (Int × Int) := boundsAt u (findS u 44 (u.size + 1) 0)
def boundsV : Option (Int × Int) → Value
  | none => .tuple #[.int .i64 0, .int .i64 0, .bool false]
  | some (a, b) => .tuple #[.int .i64 a, .int .i64 b, .bool true]
theorem txt_bounds {u : ByteArray} {x : Option (Int × Int)} {v : Value} (h : boundsS u = x) (e : v = boundsV x) : Ending.returned v = .returned (boundsV (boundsS u)) := by rw [h, e]
theorem count_cases (s : ByteArray) : countS s = -1 ∨ (0 ≤ countS s ∧ countS s ≤ 20) := by
  unfold countS dig; (repeat' split) <;> omega
theorem empty_text {u : ByteArray} (h : u.size = 0) : u.toList.isEmpty = true := by
  rw [Lib.toList_data, List.isEmpty_iff_length_eq_zero, ← Lib.size_eq]; exact h

set_option maxRecDepth 100000 in
set_option maxHeartbeats 4000000 in
theorem lexBounds (u : ByteArray) (hs : u.size ≤ 20000) (w : World) : Calls Try.prog 35 #[.string u] w fun e w' => e = .returned (boundsV (boundsS u)) ∧ ∃ n, w' = w.drewN n := by
  obtain ⟨c, hc⟩ : ∃ c, findS u 44 (u.size + 1) 0 = c := ⟨_, rfl⟩
  have HC := Lib.hid hc
  have HS : Hid (boundsS u = boundsAt u c) := Lib.hid (by unfold boundsS; rw [hc])
  have hcut := fun w => commaCut u hs c hc w
  clear hc
  by_cases h1 : c < u.size
  · have HU : Hid (cutV u c = .tuple #[.string (u.extract 0 c), .string (u.extract (c + 1) u.size), .bool true]) := Lib.hid (by unfold cutV; rw [if_pos h1])
    rw [HU.out] at hcut
    have hsz1 : (u.extract 0 c).size ≤ 20000 := by rw [sub_size _ _ _ (by omega)]; omega
    have hsz2 : (u.extract (c + 1) u.size).size ≤ 20000 := by rw [drop_size]; omega
    rcases count_cases (u.extract 0 c) with hm | ⟨hlo, hlo2⟩
    · have HT := Lib.hid (times_no hm)
      have HV : Hid (boundsS u = none) := Lib.hid (by rw [HS.out]; unfold boundsAt; rw [if_pos h1]; split; rw [if_pos (by omega)]; rw [if_pos (by omega)])
      clear hm
      go_enter Try.func35, Try.ntmps35
      go_wp2_with fail
      refine (hcut _).mono ?_
      rintro e w1 ⟨rfl, q, rfl⟩
      go_wp2_with fail
      refine (lexTimesV _ hsz1 0 false HT.out.1 HT.out.2 _).mono ?_
      rintro e w1 ⟨rfl, rfl⟩
      go_wp2
      go_ret3
      exact ⟨txt_bounds HV.out rfl, _, rfl⟩
    · obtain ⟨x, hx⟩ : ∃ x, countS (u.extract 0 c) = x := ⟨_, rfl⟩
      rw [hx] at hlo hlo2
      have HX := Lib.hid hx
      have HT := Lib.hid (times_yes hx hlo)
      clear hx
      by_cases h2 : c + 1 < u.size
      · have ne2 : (u.extract (c + 1) u.size).toList.isEmpty = false := text_some (by rw [drop_size]; omega)
        rcases count_cases (u.extract (c + 1) u.size) with hm | ⟨hhi, hhi2⟩
        · have HT2 := Lib.hid (times_no hm)
          have HV : Hid (boundsS u = none) := Lib.hid (by rw [HS.out]; unfold boundsAt; rw [if_pos h1, if_pos h2, if_pos (by omega)])
          clear hm
          go_enter Try.func35, Try.ntmps35
          go_wp2_with fail
          refine (hcut _).mono ?_
          rintro e w1 ⟨rfl, q, rfl⟩
          go_wp2_with fail
          refine (lexTimesV _ hsz1 x true HT.out.1 HT.out.2 _).mono ?_
          rintro e w1 ⟨rfl, rfl⟩
          go_wp2_with fail
          refine (lexTimesV _ hsz2 0 false HT2.out.1 HT2.out.2 _).mono ?_
          rintro e w1 ⟨rfl, rfl⟩
          go_wp2
          go_ret3
          exact ⟨txt_bounds HV.out rfl, _, rfl⟩
        · obtain ⟨y, hy⟩ : ∃ y, countS (u.extract (c + 1) u.size) = y := ⟨_, rfl⟩
          rw [hy] at hhi hhi2
          have HT2 := Lib.hid (times_yes hy hhi)
          have HY := Lib.hid hy
          clear hy
          by_cases hyx : y < x
          · have g1 := txt_t hyx
            have HV : Hid (boundsS u = none) := Lib.hid (by rw [HS.out]; unfold boundsAt; rw [if_pos h1, if_pos h2, HX.out, HY.out, if_pos (by omega)])
            go_enter Try.func35, Try.ntmps35
            go_wp2_with fail
            refine (hcut _).mono ?_
            rintro e w1 ⟨rfl, q, rfl⟩
            go_wp2_with fail
            refine (lexTimesV _ hsz1 x true HT.out.1 HT.out.2 _).mono ?_
            rintro e w1 ⟨rfl, rfl⟩
            go_wp2_with fail
            refine (lexTimesV _ hsz2 y true HT2.out.1 HT2.out.2 _).mono ?_
            rintro e w1 ⟨rfl, rfl⟩
            go_wp2
            go_ret3
            exact ⟨txt_bounds HV.out rfl, _, rfl⟩
          · have g1 := txt_f hyx
            by_cases hy1 : y < 1
            · have g2 := txt_t hy1
              have HV : Hid (boundsS u = none) := Lib.hid (by rw [HS.out]; unfold boundsAt; rw [if_pos h1, if_pos h2, HX.out, HY.out, if_pos (by omega)])
              go_enter Try.func35, Try.ntmps35
              go_wp2_with fail
              refine (hcut _).mono ?_
              rintro e w1 ⟨rfl, q, rfl⟩
              go_wp2_with fail
              refine (lexTimesV _ hsz1 x true HT.out.1 HT.out.2 _).mono ?_
              rintro e w1 ⟨rfl, rfl⟩
              go_wp2_with fail
              refine (lexTimesV _ hsz2 y true HT2.out.1 HT2.out.2 _).mono ?_
              rintro e w1 ⟨rfl, rfl⟩
              go_wp2
              go_ret3
              exact ⟨txt_bounds HV.out rfl, _, rfl⟩
            · have g2 := txt_f hy1
              have HV : Hid (boundsS u = some (x, y)) := Lib.hid (by rw [HS.out]; unfold boundsAt; rw [if_pos h1, if_pos h2, HX.out, HY.out, if_neg (by omega)])
              go_enter Try.func35, Try.ntmps35
              go_wp2_with fail
              refine (hcut _).mono ?_
              rintro e w1 ⟨rfl, q, rfl⟩
              go_wp2_with fail
              refine (lexTimesV _ hsz1 x true HT.out.1 HT.out.2 _).mono ?_
              rintro e w1 ⟨rfl, rfl⟩
              go_wp2_with fail
              refine (lexTimesV _ hsz2 y true HT2.out.1 HT2.out.2 _).mono ?_
              rintro e w1 ⟨rfl, rfl⟩
              go_wp2
              go_ret3
              exact ⟨txt_bounds HV.out rfl, _, rfl⟩
      · have ne2 : (u.extract (c + 1) u.size).toList.isEmpty = true := empty_text (by rw [drop_size]; omega)
        have HV : Hid (boundsS u = some (x, -1)) := Lib.hid (by rw [HS.out]; unfold boundsAt; rw [if_pos h1, if_neg h2, HX.out, if_neg (by omega)])
        go_enter Try.func35, Try.ntmps35
        go_wp2_with fail
        refine (hcut _).mono ?_
        rintro e w1 ⟨rfl, q, rfl⟩
        go_wp2_with fail
        refine (lexTimesV _ hsz1 x true HT.out.1 HT.out.2 _).mono ?_
        rintro e w1 ⟨rfl, rfl⟩
        go_wp2
        go_ret3
        exact ⟨txt_bounds HV.out rfl, _, rfl⟩
  · have HU : Hid (cutV u c = .tuple #[.string u, .string { data := #[] }, .bool false]) := Lib.hid (by unfold cutV; rw [if_neg h1])
    rw [HU.out] at hcut
    rcases count_cases u with hm | ⟨hlo, hlo2⟩
    · have HT := Lib.hid (times_no hm)
      have HV : Hid (boundsS u = none) := Lib.hid (by rw [HS.out]; unfold boundsAt; rw [if_neg h1, if_pos (by omega)])
      clear hm
      go_enter Try.func35, Try.ntmps35
      go_wp2_with fail
      refine (hcut _).mono ?_
      rintro e w1 ⟨rfl, q, rfl⟩
      go_wp2_with fail
      refine (lexTimesV _ hs 0 false HT.out.1 HT.out.2 _).mono ?_
      rintro e w1 ⟨rfl, rfl⟩
      go_wp2
      go_ret3
      exact ⟨txt_bounds HV.out rfl, _, rfl⟩
    · obtain ⟨x, hx⟩ : ∃ x, countS u = x := ⟨_, rfl⟩
      rw [hx] at hlo hlo2
      have HX := Lib.hid hx
      have HT := Lib.hid (times_yes hx hlo)
      clear hx
      have g0 : decide (x < x) = false := txt_f (by omega)
      by_cases hx1 : x < 1
      · have g1 := txt_t hx1
        have HV : Hid (boundsS u = none) := Lib.hid (by rw [HS.out]; unfold boundsAt; rw [if_neg h1, HX.out, if_pos hx1])
        go_enter Try.func35, Try.ntmps35
        go_wp2_with fail
        refine (hcut _).mono ?_
        rintro e w1 ⟨rfl, q, rfl⟩
        go_wp2_with fail
        refine (lexTimesV _ hs x true HT.out.1 HT.out.2 _).mono ?_
        rintro e w1 ⟨rfl, rfl⟩
        go_wp2
        go_ret3
        exact ⟨txt_bounds HV.out rfl, _, rfl⟩
      · have g1 := txt_f hx1
        have HV : Hid (boundsS u = some (x, x)) := Lib.hid (by rw [HS.out]; unfold boundsAt; rw [if_neg h1, HX.out, if_neg hx1])
        go_enter Try.func35, Try.ntmps35
        go_wp2_with fail
        refine (hcut _).mono ?_
        rintro e w1 ⟨rfl, q, rfl⟩
        go_wp2_with fail
        refine (lexTimesV _ hs x true HT.out.1 HT.out.2 _).mono ?_
        rintro e w1 ⟨rfl, rfl⟩
        go_wp2
        go_ret3
        exact ⟨txt_bounds HV.out rfl, _, rfl⟩
end Go.Proofs.Ytdcldhkpmihahaa
