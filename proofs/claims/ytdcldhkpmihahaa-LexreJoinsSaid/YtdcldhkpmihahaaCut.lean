/- strings.Cut at a comma. -/
import Derived.Test.YtdcldhkpmihahaaSub
import Derived.Deep.QuietTactic
import Derived.BigQuiet
namespace Go.Proofs.Ytdcldhkpmihahaa
open Go.RowKit
set_option linter.unusedSimpArgs false
set_option linter.unusedVariables false

theorem textIndexV (t : ByteArray) (c : Nat) (hc : c < 256) (f : Nat) (hf : t.size < f) (v : Int) (hv : (if findS t c f 0 < t.size then ((findS t c f 0 : Nat) : Int) else -1) = v) (w : World) :
    Calls Try.prog 45 #[.string t, .int .u8 c] w fun e w' => e = .returned (.int .i64 v) ∧ w = w' := by
  rw [← hv]; exact textIndex t c hc f hf w
theorem comma_self (t : ByteArray) (h : ([44] : List UInt8) = t.toList) : (if findS t 44 (t.size + 1) 0 < t.size then ((findS t 44 (t.size + 1) 0 : Nat) : Int) else -1) = 0 := by
  rw [Lib.toList_data] at h
  have hs : t.size = 1 := by rw [Lib.size_eq, ← h]; rfl
  have hb : bt t 0 = 44 := by rw [bt_get, ← h]; rfl
  rw [find_here (Or.inr hb), if_pos (by omega)]
  rfl
set_option maxHeartbeats 1000000 in
set_option maxRecDepth 100000 in
theorem commaIndex (t : ByteArray) (hs : t.size ≤ 20000) (v : Int) (hv : (if findS t 44 (t.size + 1) 0 < t.size then ((findS t 44 (t.size + 1) 0 : Nat) : Int) else -1) = v) (w : World) :
    Calls Try.prog 51 #[.string t, .string { data := #[44] }] w fun e w' => e = .returned (.int .i64 v) ∧ w = w' := by
  have HV := Lib.hid hv
  clear hv
  go_enter Try.func51, Try.ntmps51
  go_wp2_with fail
  · rename_i h
    go_ret
    refine ⟨txt_int ?_, rfl⟩
    rw [← HV.out, comma_self t (by simpa using h)]
  · refine (textIndexV t 44 (by omega) (t.size + 1) (by omega) v HV.out _).mono ?_
    rintro e w1 ⟨rfl, rfl⟩
    go_wp2
    go_ret
    exact ⟨rfl, rfl⟩
/-- What stands ahead of the first comma, what stands behind it, and whether there is one. -/
def cutV (t : ByteArray) (c : Nat) : Value := if c < t.size then .tuple #[.string (t.extract 0 c), .string (t.extract (c + 1) t.size), .bool true] else .tuple #[.string t, .string { data := #[] }, .bool false]
set_option maxHeartbeats 1000000 in
set_option maxRecDepth 100000 in
theorem commaCutIn (t : ByteArray) (hs : t.size ≤ 20000) (c : Nat) (hc : findS t 44 (t.size + 1) 0 = c) (w : World) :
    Calls Try.prog 50 #[.string t, .string { data := #[44] }] w fun e w' => e = .returned (cutV t c) ∧ ∃ n, w' = w.drewN n := by
  have HC := Lib.hid hc
  clear hc
  by_cases h : c < t.size
  · have HV : Hid (cutV t c = .tuple #[.string (t.extract 0 c), .string (t.extract (c + 1) t.size), .bool true]) := Lib.hid (by unfold cutV; rw [if_pos h])
    have HI : Hid ((if findS t 44 (t.size + 1) 0 < t.size then ((findS t 44 (t.size + 1) 0 : Nat) : Int) else -1) = (c : Int)) := Lib.hid (by rw [HC.out, if_pos h])
    have hl : c ≤ t.size := by omega
    have hl1 : c + 1 ≤ t.size := by omega
    go_enter Try.func50, Try.ntmps50
    go_wp2_with fail
    refine (commaIndex t hs c HI.out _).mono ?_
    rintro e w1 ⟨rfl, rfl⟩
    go_wp2_with fail
    go_quiet (fail)
    go_wp2
    go_ret3
    exact ⟨by rw [HV.out]; rfl, _, rfl⟩
  · have HV : Hid (cutV t c = .tuple #[.string t, .string { data := #[] }, .bool false]) := Lib.hid (by unfold cutV; rw [if_neg h])
    have HI : Hid ((if findS t 44 (t.size + 1) 0 < t.size then ((findS t 44 (t.size + 1) 0 : Nat) : Int) else -1) = -1) := Lib.hid (by rw [HC.out, if_neg h])
    go_enter Try.func50, Try.ntmps50
    go_wp2_with fail
    refine (commaIndex t hs (-1) HI.out _).mono ?_
    rintro e w1 ⟨rfl, rfl⟩
    go_wp2
    go_ret3
    exact ⟨by rw [HV.out]; rfl, 0, rfl⟩
theorem commaCut (t : ByteArray) (hs : t.size ≤ 20000) (c : Nat) (hc : findS t 44 (t.size + 1) 0 = c) (w : World) :
    Calls Try.prog 47 #[.string t, .string { data := #[44] }] w fun e w' => e = .returned (cutV t c) ∧ ∃ n, w' = w.drewN n := by
  by_cases h : c < t.size
  · have HV : Hid (cutV t c = .tuple #[.string (t.extract 0 c), .string (t.extract (c + 1) t.size), .bool true]) := Lib.hid (by unfold cutV; rw [if_pos h])
    have hin := fun w => commaCutIn t hs c hc w
    rw [HV.out] at hin ⊢
    go_enter Try.func47, Try.ntmps47
    go_wp2_with fail
    refine (hin _).mono ?_
    rintro e w1 ⟨rfl, n, rfl⟩
    go_wp2
    go_ret3
    exact ⟨rfl, n, rfl⟩
  · have HV : Hid (cutV t c = .tuple #[.string t, .string { data := #[] }, .bool false]) := Lib.hid (by unfold cutV; rw [if_neg h])
    have hin := fun w => commaCutIn t hs c hc w
    rw [HV.out] at hin ⊢
    go_enter Try.func47, Try.ntmps47
    go_wp2_with fail
    refine (hin _).mono ?_
    rintro e w1 ⟨rfl, n, rfl⟩
    go_wp2
    go_ret3
    exact ⟨rfl, n, rfl⟩
end Go.Proofs.Ytdcldhkpmihahaa
