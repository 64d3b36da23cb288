/- Joined: TreeRight, TreeSizeS, TreeFormed, TreeSize. -/
import Derived.Test.YtcghclikkeajfaaGreatProg
import Derived.Test.YtcghclikkeajfaaGreatMa
import Derived.Test.YtcghclikkeajfaaGreatMD
import Derived.Test.YtcghclikkeajfaaGreatMd
import Derived.Test.YtcghclikkeajfaaGreatRefFormed
import Derived.Test.YtcghclikkeajfaaGreatMp
/- What tree's rightParts and rightTimes answer. -/
namespace Go.Proofs.YtcghclikkeajfaaGreat
open Go.RowKit
set_option linter.unusedSimpArgs false
set_option linter.unusedVariables false

def rpB (t : Tr) : Bool := decide ((0 ≤ t.kind ∧ t.kind ≤ 11) ∧ (t.parts.length : Int) = cntF t)
theorem rp_yes {t : Tr} (h : 0 ≤ t.kind ∧ t.kind ≤ 11) (h1 : (t.parts.length : Int) = cntF t) : rpB t = true := decide_eq_true ⟨h, h1⟩
theorem rp_no {t : Tr} (h : ¬ (t.parts.length : Int) = cntF t) : rpB t = false := decide_eq_false fun q => h q.2
theorem rp_out {t : Tr} (h : t.kind < 0 ∨ 11 < t.kind) : rpB t = false := decide_eq_false fun q => by omega
def rtB (t : Tr) : Bool := decide ((t.kind = 7 ∨ (t.lo = 0 ∧ t.hi = 0)) ∧ (t.kind = 7 → timesF t))
set_option maxRecDepth 100000 in
set_option maxHeartbeats 2000000 in
theorem rightParts_0 (t : Tr) (w : World) (hn : t.n = t.parts.length) (hl : t.parts.length ≤ 9223372036854775807) (hk : t.kind = 0) :
    Calls Tryz.prog 86 #[.agg t.cs.toArray] w fun e w' => e = .returned (.bool (rpB t)) ∧ Below w.heap.size w w' := by
  have HA0 := Lib.hid (At.new w 27 t.cs.toArray)
  obtain ⟨c0, c5, c6, c7, c8⟩ := At.tr_cell HA0.out
  rw [hn] at c5
  have HN := Lib.hid hn
  clear hn
  rw [hk] at c0
  by_cases hlen : (t.parts.length : Int) = 0
  · have dlen := (int_eq hlen).1
    have HF := Lib.hid (rp_yes (t := t) (by omega) (by rw [cnt_none (by omega) (by omega)]; exact hlen))
    clear hk hlen
    go_enter Tryz.func86, Tryz.ntmps86
    go_wp2_with fail
    go_ret
    exact ⟨ret_bool HF.out.symm, (Below.refl _ _).alloc (Nat.le_refl _) _⟩
  · have dlen := (int_ne hlen).1
    have HF := Lib.hid (rp_no (t := t) (by rw [cnt_none (by omega) (by omega)]; exact hlen))
    clear hk hlen
    go_enter Tryz.func86, Tryz.ntmps86
    go_wp2_with fail
    go_ret
    exact ⟨ret_bool HF.out.symm, (Below.refl _ _).alloc (Nat.le_refl _) _⟩
set_option maxRecDepth 100000 in
set_option maxHeartbeats 2000000 in
theorem rightParts_1 (t : Tr) (w : World) (hn : t.n = t.parts.length) (hl : t.parts.length ≤ 9223372036854775807) (hk : t.kind = 1) :
    Calls Tryz.prog 86 #[.agg t.cs.toArray] w fun e w' => e = .returned (.bool (rpB t)) ∧ Below w.heap.size w w' := by
  have HA0 := Lib.hid (At.new w 27 t.cs.toArray)
  obtain ⟨c0, c5, c6, c7, c8⟩ := At.tr_cell HA0.out
  rw [hn] at c5
  have HN := Lib.hid hn
  clear hn
  rw [hk] at c0
  by_cases hlen : (t.parts.length : Int) = 0
  · have dlen := (int_eq hlen).1
    have HF := Lib.hid (rp_yes (t := t) (by omega) (by rw [cnt_none (by omega) (by omega)]; exact hlen))
    clear hk hlen
    go_enter Tryz.func86, Tryz.ntmps86
    go_wp2_with fail
    go_ret
    exact ⟨ret_bool HF.out.symm, (Below.refl _ _).alloc (Nat.le_refl _) _⟩
  · have dlen := (int_ne hlen).1
    have HF := Lib.hid (rp_no (t := t) (by rw [cnt_none (by omega) (by omega)]; exact hlen))
    clear hk hlen
    go_enter Tryz.func86, Tryz.ntmps86
    go_wp2_with fail
    go_ret
    exact ⟨ret_bool HF.out.symm, (Below.refl _ _).alloc (Nat.le_refl _) _⟩
set_option maxRecDepth 100000 in
set_option maxHeartbeats 2000000 in
theorem rightParts_2 (t : Tr) (w : World) (hn : t.n = t.parts.length) (hl : t.parts.length ≤ 9223372036854775807) (hk : t.kind = 2) :
    Calls Tryz.prog 86 #[.agg t.cs.toArray] w fun e w' => e = .returned (.bool (rpB t)) ∧ Below w.heap.size w w' := by
  have HA0 := Lib.hid (At.new w 27 t.cs.toArray)
  obtain ⟨c0, c5, c6, c7, c8⟩ := At.tr_cell HA0.out
  rw [hn] at c5
  have HN := Lib.hid hn
  clear hn
  rw [hk] at c0
  by_cases hlen : (t.parts.length : Int) = 0
  · have dlen := (int_eq hlen).1
    have HF := Lib.hid (rp_yes (t := t) (by omega) (by rw [cnt_none (by omega) (by omega)]; exact hlen))
    clear hk hlen
    go_enter Tryz.func86, Tryz.ntmps86
    go_wp2_with fail
    go_ret
    exact ⟨ret_bool HF.out.symm, (Below.refl _ _).alloc (Nat.le_refl _) _⟩
  · have dlen := (int_ne hlen).1
    have HF := Lib.hid (rp_no (t := t) (by rw [cnt_none (by omega) (by omega)]; exact hlen))
    clear hk hlen
    go_enter Tryz.func86, Tryz.ntmps86
    go_wp2_with fail
    go_ret
    exact ⟨ret_bool HF.out.symm, (Below.refl _ _).alloc (Nat.le_refl _) _⟩
set_option maxRecDepth 100000 in
set_option maxHeartbeats 2000000 in
theorem rightParts_3 (t : Tr) (w : World) (hn : t.n = t.parts.length) (hl : t.parts.length ≤ 9223372036854775807) (hk : t.kind = 3) :
    Calls Tryz.prog 86 #[.agg t.cs.toArray] w fun e w' => e = .returned (.bool (rpB t)) ∧ Below w.heap.size w w' := by
  have HA0 := Lib.hid (At.new w 27 t.cs.toArray)
  obtain ⟨c0, c5, c6, c7, c8⟩ := At.tr_cell HA0.out
  rw [hn] at c5
  have HN := Lib.hid hn
  clear hn
  rw [hk] at c0
  have HF := Lib.hid (rp_yes (t := t) (by omega) (cnt_all (by omega)).symm)
  clear hk
  go_enter Tryz.func86, Tryz.ntmps86
  go_wp2_with fail
  go_ret
  exact ⟨ret_bool HF.out.symm, (Below.refl _ _).alloc (Nat.le_refl _) _⟩
set_option maxRecDepth 100000 in
set_option maxHeartbeats 2000000 in
theorem rightParts_4 (t : Tr) (w : World) (hn : t.n = t.parts.length) (hl : t.parts.length ≤ 9223372036854775807) (hk : t.kind = 4) :
    Calls Tryz.prog 86 #[.agg t.cs.toArray] w fun e w' => e = .returned (.bool (rpB t)) ∧ Below w.heap.size w w' := by
  have HA0 := Lib.hid (At.new w 27 t.cs.toArray)
  obtain ⟨c0, c5, c6, c7, c8⟩ := At.tr_cell HA0.out
  rw [hn] at c5
  have HN := Lib.hid hn
  clear hn
  rw [hk] at c0
  have HF := Lib.hid (rp_yes (t := t) (by omega) (cnt_all (by omega)).symm)
  clear hk
  go_enter Tryz.func86, Tryz.ntmps86
  go_wp2_with fail
  go_ret
  exact ⟨ret_bool HF.out.symm, (Below.refl _ _).alloc (Nat.le_refl _) _⟩
set_option maxRecDepth 100000 in
set_option maxHeartbeats 2000000 in
theorem rightParts_5 (t : Tr) (w : World) (hn : t.n = t.parts.length) (hl : t.parts.length ≤ 9223372036854775807) (hk : t.kind = 5) :
    Calls Tryz.prog 86 #[.agg t.cs.toArray] w fun e w' => e = .returned (.bool (rpB t)) ∧ Below w.heap.size w w' := by
  have HA0 := Lib.hid (At.new w 27 t.cs.toArray)
  obtain ⟨c0, c5, c6, c7, c8⟩ := At.tr_cell HA0.out
  rw [hn] at c5
  have HN := Lib.hid hn
  clear hn
  rw [hk] at c0
  have HF := Lib.hid (rp_yes (t := t) (by omega) (cnt_all (by omega)).symm)
  clear hk
  go_enter Tryz.func86, Tryz.ntmps86
  go_wp2_with fail
  go_ret
  exact ⟨ret_bool HF.out.symm, (Below.refl _ _).alloc (Nat.le_refl _) _⟩
set_option maxRecDepth 100000 in
set_option maxHeartbeats 2000000 in
theorem rightParts_6 (t : Tr) (w : World) (hn : t.n = t.parts.length) (hl : t.parts.length ≤ 9223372036854775807) (hk : t.kind = 6) :
    Calls Tryz.prog 86 #[.agg t.cs.toArray] w fun e w' => e = .returned (.bool (rpB t)) ∧ Below w.heap.size w w' := by
  have HA0 := Lib.hid (At.new w 27 t.cs.toArray)
  obtain ⟨c0, c5, c6, c7, c8⟩ := At.tr_cell HA0.out
  rw [hn] at c5
  have HN := Lib.hid hn
  clear hn
  rw [hk] at c0
  by_cases hlen : (t.parts.length : Int) = 1
  · have dlen := (int_eq hlen).1
    have HF := Lib.hid (rp_yes (t := t) (by omega) (by rw [cnt_one (by omega)]; exact hlen))
    clear hk hlen
    go_enter Tryz.func86, Tryz.ntmps86
    go_wp2_with fail
    go_ret
    exact ⟨ret_bool HF.out.symm, (Below.refl _ _).alloc (Nat.le_refl _) _⟩
  · have dlen := (int_ne hlen).1
    have HF := Lib.hid (rp_no (t := t) (by rw [cnt_one (by omega)]; exact hlen))
    clear hk hlen
    go_enter Tryz.func86, Tryz.ntmps86
    go_wp2_with fail
    go_ret
    exact ⟨ret_bool HF.out.symm, (Below.refl _ _).alloc (Nat.le_refl _) _⟩
set_option maxRecDepth 100000 in
set_option maxHeartbeats 2000000 in
theorem rightParts_7 (t : Tr) (w : World) (hn : t.n = t.parts.length) (hl : t.parts.length ≤ 9223372036854775807) (hk : t.kind = 7) :
    Calls Tryz.prog 86 #[.agg t.cs.toArray] w fun e w' => e = .returned (.bool (rpB t)) ∧ Below w.heap.size w w' := by
  have HA0 := Lib.hid (At.new w 27 t.cs.toArray)
  obtain ⟨c0, c5, c6, c7, c8⟩ := At.tr_cell HA0.out
  rw [hn] at c5
  have HN := Lib.hid hn
  clear hn
  rw [hk] at c0
  by_cases hlen : (t.parts.length : Int) = 1
  · have dlen := (int_eq hlen).1
    have HF := Lib.hid (rp_yes (t := t) (by omega) (by rw [cnt_one (by omega)]; exact hlen))
    clear hk hlen
    go_enter Tryz.func86, Tryz.ntmps86
    go_wp2_with fail
    go_ret
    exact ⟨ret_bool HF.out.symm, (Below.refl _ _).alloc (Nat.le_refl _) _⟩
  · have dlen := (int_ne hlen).1
    have HF := Lib.hid (rp_no (t := t) (by rw [cnt_one (by omega)]; exact hlen))
    clear hk hlen
    go_enter Tryz.func86, Tryz.ntmps86
    go_wp2_with fail
    go_ret
    exact ⟨ret_bool HF.out.symm, (Below.refl _ _).alloc (Nat.le_refl _) _⟩
set_option maxRecDepth 100000 in
set_option maxHeartbeats 2000000 in
theorem rightParts_8 (t : Tr) (w : World) (hn : t.n = t.parts.length) (hl : t.parts.length ≤ 9223372036854775807) (hk : t.kind = 8) :
    Calls Tryz.prog 86 #[.agg t.cs.toArray] w fun e w' => e = .returned (.bool (rpB t)) ∧ Below w.heap.size w w' := by
  have HA0 := Lib.hid (At.new w 27 t.cs.toArray)
  obtain ⟨c0, c5, c6, c7, c8⟩ := At.tr_cell HA0.out
  rw [hn] at c5
  have HN := Lib.hid hn
  clear hn
  rw [hk] at c0
  by_cases hlen : (t.parts.length : Int) = 1
  · have dlen := (int_eq hlen).1
    have HF := Lib.hid (rp_yes (t := t) (by omega) (by rw [cnt_one (by omega)]; exact hlen))
    clear hk hlen
    go_enter Tryz.func86, Tryz.ntmps86
    go_wp2_with fail
    go_ret
    exact ⟨ret_bool HF.out.symm, (Below.refl _ _).alloc (Nat.le_refl _) _⟩
  · have dlen := (int_ne hlen).1
    have HF := Lib.hid (rp_no (t := t) (by rw [cnt_one (by omega)]; exact hlen))
    clear hk hlen
    go_enter Tryz.func86, Tryz.ntmps86
    go_wp2_with fail
    go_ret
    exact ⟨ret_bool HF.out.symm, (Below.refl _ _).alloc (Nat.le_refl _) _⟩
set_option maxRecDepth 100000 in
set_option maxHeartbeats 2000000 in
theorem rightParts_9 (t : Tr) (w : World) (hn : t.n = t.parts.length) (hl : t.parts.length ≤ 9223372036854775807) (hk : t.kind = 9) :
    Calls Tryz.prog 86 #[.agg t.cs.toArray] w fun e w' => e = .returned (.bool (rpB t)) ∧ Below w.heap.size w w' := by
  have HA0 := Lib.hid (At.new w 27 t.cs.toArray)
  obtain ⟨c0, c5, c6, c7, c8⟩ := At.tr_cell HA0.out
  rw [hn] at c5
  have HN := Lib.hid hn
  clear hn
  rw [hk] at c0
  by_cases hlen : (t.parts.length : Int) = 1
  · have dlen := (int_eq hlen).1
    have HF := Lib.hid (rp_yes (t := t) (by omega) (by rw [cnt_one (by omega)]; exact hlen))
    clear hk hlen
    go_enter Tryz.func86, Tryz.ntmps86
    go_wp2_with fail
    go_ret
    exact ⟨ret_bool HF.out.symm, (Below.refl _ _).alloc (Nat.le_refl _) _⟩
  · have dlen := (int_ne hlen).1
    have HF := Lib.hid (rp_no (t := t) (by rw [cnt_one (by omega)]; exact hlen))
    clear hk hlen
    go_enter Tryz.func86, Tryz.ntmps86
    go_wp2_with fail
    go_ret
    exact ⟨ret_bool HF.out.symm, (Below.refl _ _).alloc (Nat.le_refl _) _⟩
set_option maxRecDepth 100000 in
set_option maxHeartbeats 2000000 in
theorem rightParts_10 (t : Tr) (w : World) (hn : t.n = t.parts.length) (hl : t.parts.length ≤ 9223372036854775807) (hk : t.kind = 10) :
    Calls Tryz.prog 86 #[.agg t.cs.toArray] w fun e w' => e = .returned (.bool (rpB t)) ∧ Below w.heap.size w w' := by
  have HA0 := Lib.hid (At.new w 27 t.cs.toArray)
  obtain ⟨c0, c5, c6, c7, c8⟩ := At.tr_cell HA0.out
  rw [hn] at c5
  have HN := Lib.hid hn
  clear hn
  rw [hk] at c0
  by_cases hlen : (t.parts.length : Int) = 0
  · have dlen := (int_eq hlen).1
    have HF := Lib.hid (rp_yes (t := t) (by omega) (by rw [cnt_none (by omega) (by omega)]; exact hlen))
    clear hk hlen
    go_enter Tryz.func86, Tryz.ntmps86
    go_wp2_with fail
    go_ret
    exact ⟨ret_bool HF.out.symm, (Below.refl _ _).alloc (Nat.le_refl _) _⟩
  · have dlen := (int_ne hlen).1
    have HF := Lib.hid (rp_no (t := t) (by rw [cnt_none (by omega) (by omega)]; exact hlen))
    clear hk hlen
    go_enter Tryz.func86, Tryz.ntmps86
    go_wp2_with fail
    go_ret
    exact ⟨ret_bool HF.out.symm, (Below.refl _ _).alloc (Nat.le_refl _) _⟩
set_option maxRecDepth 100000 in
set_option maxHeartbeats 2000000 in
theorem rightParts_11 (t : Tr) (w : World) (hn : t.n = t.parts.length) (hl : t.parts.length ≤ 9223372036854775807) (hk : t.kind = 11) :
    Calls Tryz.prog 86 #[.agg t.cs.toArray] w fun e w' => e = .returned (.bool (rpB t)) ∧ Below w.heap.size w w' := by
  have HA0 := Lib.hid (At.new w 27 t.cs.toArray)
  obtain ⟨c0, c5, c6, c7, c8⟩ := At.tr_cell HA0.out
  rw [hn] at c5
  have HN := Lib.hid hn
  clear hn
  rw [hk] at c0
  by_cases hlen : (t.parts.length : Int) = 0
  · have dlen := (int_eq hlen).1
    have HF := Lib.hid (rp_yes (t := t) (by omega) (by rw [cnt_none (by omega) (by omega)]; exact hlen))
    clear hk hlen
    go_enter Tryz.func86, Tryz.ntmps86
    go_wp2_with fail
    go_ret
    exact ⟨ret_bool HF.out.symm, (Below.refl _ _).alloc (Nat.le_refl _) _⟩
  · have dlen := (int_ne hlen).1
    have HF := Lib.hid (rp_no (t := t) (by rw [cnt_none (by omega) (by omega)]; exact hlen))
    clear hk hlen
    go_enter Tryz.func86, Tryz.ntmps86
    go_wp2_with fail
    go_ret
    exact ⟨ret_bool HF.out.symm, (Below.refl _ _).alloc (Nat.le_refl _) _⟩
set_option maxRecDepth 100000 in
set_option maxHeartbeats 2000000 in
theorem rightParts_out (t : Tr) (w : World) (hn : t.n = t.parts.length) (hl : t.parts.length ≤ 9223372036854775807) (hk : t.kind < 0 ∨ 11 < t.kind) :
    Calls Tryz.prog 86 #[.agg t.cs.toArray] w fun e w' => e = .returned (.bool (rpB t)) ∧ Below w.heap.size w w' := by
  have HA0 := Lib.hid (At.new w 27 t.cs.toArray)
  obtain ⟨c0, c5, c6, c7, c8⟩ := At.tr_cell HA0.out
  rw [hn] at c5
  have HN := Lib.hid hn
  clear hn
  have k0 := (int_ne (show ¬ t.kind = 0 by omega)).1
  have k1 := (int_ne (show ¬ t.kind = 1 by omega)).1
  have k2 := (int_ne (show ¬ t.kind = 2 by omega)).1
  have k3 := (int_ne (show ¬ t.kind = 3 by omega)).1
  have k4 := (int_ne (show ¬ t.kind = 4 by omega)).1
  have k5 := (int_ne (show ¬ t.kind = 5 by omega)).1
  have k6 := (int_ne (show ¬ t.kind = 6 by omega)).1
  have k7 := (int_ne (show ¬ t.kind = 7 by omega)).1
  have k8 := (int_ne (show ¬ t.kind = 8 by omega)).1
  have k9 := (int_ne (show ¬ t.kind = 9 by omega)).1
  have k10 := (int_ne (show ¬ t.kind = 10 by omega)).1
  have k11 := (int_ne (show ¬ t.kind = 11 by omega)).1
  have HF := Lib.hid (rp_out hk)
  clear hk
  go_enter Tryz.func86, Tryz.ntmps86
  go_wp2_with fail
  go_ret
  exact ⟨ret_bool HF.out.symm, (Below.refl _ _).alloc (Nat.le_refl _) _⟩
theorem treeRightParts (t : Tr) (w : World) (hn : t.n = t.parts.length) (hl : t.parts.length ≤ 9223372036854775807) :
    Calls Tryz.prog 86 #[.agg t.cs.toArray] w fun e w' => e = .returned (.bool (rpB t)) ∧ Below w.heap.size w w' := by
  by_cases h0 : t.kind = 0
  · exact rightParts_0 t w hn hl h0
  by_cases h1 : t.kind = 1
  · exact rightParts_1 t w hn hl h1
  by_cases h2 : t.kind = 2
  · exact rightParts_2 t w hn hl h2
  by_cases h3 : t.kind = 3
  · exact rightParts_3 t w hn hl h3
  by_cases h4 : t.kind = 4
  · exact rightParts_4 t w hn hl h4
  by_cases h5 : t.kind = 5
  · exact rightParts_5 t w hn hl h5
  by_cases h6 : t.kind = 6
  · exact rightParts_6 t w hn hl h6
  by_cases h7 : t.kind = 7
  · exact rightParts_7 t w hn hl h7
  by_cases h8 : t.kind = 8
  · exact rightParts_8 t w hn hl h8
  by_cases h9 : t.kind = 9
  · exact rightParts_9 t w hn hl h9
  by_cases h10 : t.kind = 10
  · exact rightParts_10 t w hn hl h10
  by_cases h11 : t.kind = 11
  · exact rightParts_11 t w hn hl h11
  exact rightParts_out t w hn hl (by omega)
set_option maxRecDepth 100000 in
set_option maxHeartbeats 2000000 in
theorem rt_plain (t : Tr) (w : World) (hn : t.n = t.parts.length) (hl : t.parts.length ≤ 9223372036854775807) (hk : ¬ t.kind = 7 ∧ t.lo = 0 ∧ t.hi = 0) :
    Calls Tryz.prog 87 #[.agg t.cs.toArray] w fun e w' => e = .returned (.bool (rtB t)) ∧ Below w.heap.size w w' := by
  have HA0 := Lib.hid (At.new w 27 t.cs.toArray)
  obtain ⟨c0, c5, c6, c7, c8⟩ := At.tr_cell HA0.out
  rw [hn] at c5
  have HN := Lib.hid hn
  clear hn
  have dk := (int_ne (show ¬ t.kind = 7 by omega)).1
  have dkx := (int_ne (show ¬ t.kind = 7 by omega)).2
  have dl := (int_eq (show t.lo = 0 by omega)).1
  have dlx := (int_eq (show t.lo = 0 by omega)).2
  have dh := (int_eq (show t.hi = 0 by omega)).1
  have dhx := (int_eq (show t.hi = 0 by omega)).2
  have HF := Lib.hid (show rtB t = true from decide_eq_true (by unfold timesF; omega))
  clear hk
  go_enter Tryz.func87, Tryz.ntmps87
  go_wp2_with fail
  go_ret
  exact ⟨ret_bool HF.out.symm, (Below.refl _ _).alloc (Nat.le_refl _) _⟩
set_option maxRecDepth 100000 in
set_option maxHeartbeats 2000000 in
theorem rt_lo (t : Tr) (w : World) (hn : t.n = t.parts.length) (hl : t.parts.length ≤ 9223372036854775807) (hk : ¬ t.kind = 7 ∧ ¬ t.lo = 0) :
    Calls Tryz.prog 87 #[.agg t.cs.toArray] w fun e w' => e = .returned (.bool (rtB t)) ∧ Below w.heap.size w w' := by
  have HA0 := Lib.hid (At.new w 27 t.cs.toArray)
  obtain ⟨c0, c5, c6, c7, c8⟩ := At.tr_cell HA0.out
  rw [hn] at c5
  have HN := Lib.hid hn
  clear hn
  have dk := (int_ne (show ¬ t.kind = 7 by omega)).1
  have dkx := (int_ne (show ¬ t.kind = 7 by omega)).2
  have dl := (int_ne (show ¬ t.lo = 0 by omega)).1
  have dlx := (int_ne (show ¬ t.lo = 0 by omega)).2
  have HF := Lib.hid (show rtB t = false from decide_eq_false (by unfold timesF; omega))
  clear hk
  go_enter Tryz.func87, Tryz.ntmps87
  go_wp2_with fail
  go_ret
  exact ⟨ret_bool HF.out.symm, (Below.refl _ _).alloc (Nat.le_refl _) _⟩
set_option maxRecDepth 100000 in
set_option maxHeartbeats 2000000 in
theorem rt_hi (t : Tr) (w : World) (hn : t.n = t.parts.length) (hl : t.parts.length ≤ 9223372036854775807) (hk : ¬ t.kind = 7 ∧ t.lo = 0 ∧ ¬ t.hi = 0) :
    Calls Tryz.prog 87 #[.agg t.cs.toArray] w fun e w' => e = .returned (.bool (rtB t)) ∧ Below w.heap.size w w' := by
  have HA0 := Lib.hid (At.new w 27 t.cs.toArray)
  obtain ⟨c0, c5, c6, c7, c8⟩ := At.tr_cell HA0.out
  rw [hn] at c5
  have HN := Lib.hid hn
  clear hn
  have dk := (int_ne (show ¬ t.kind = 7 by omega)).1
  have dkx := (int_ne (show ¬ t.kind = 7 by omega)).2
  have dl := (int_eq (show t.lo = 0 by omega)).1
  have dlx := (int_eq (show t.lo = 0 by omega)).2
  have dh := (int_ne (show ¬ t.hi = 0 by omega)).1
  have dhx := (int_ne (show ¬ t.hi = 0 by omega)).2
  have HF := Lib.hid (show rtB t = false from decide_eq_false (by unfold timesF; omega))
  clear hk
  go_enter Tryz.func87, Tryz.ntmps87
  go_wp2_with fail
  go_ret
  exact ⟨ret_bool HF.out.symm, (Below.refl _ _).alloc (Nat.le_refl _) _⟩
set_option maxRecDepth 100000 in
set_option maxHeartbeats 2000000 in
theorem rt_low (t : Tr) (w : World) (hn : t.n = t.parts.length) (hl : t.parts.length ≤ 9223372036854775807) (hk : t.kind = 7 ∧ t.lo < 0) :
    Calls Tryz.prog 87 #[.agg t.cs.toArray] w fun e w' => e = .returned (.bool (rtB t)) ∧ Below w.heap.size w w' := by
  have HA0 := Lib.hid (At.new w 27 t.cs.toArray)
  obtain ⟨c0, c5, c6, c7, c8⟩ := At.tr_cell HA0.out
  rw [hn] at c5
  have HN := Lib.hid hn
  clear hn
  have dk := (int_eq (show t.kind = 7 by omega)).1
  have dkx := (int_eq (show t.kind = 7 by omega)).2
  have el : t.lo < 0 := by omega
  have dl := dec_t el
  have HF := Lib.hid (show rtB t = false from decide_eq_false (by unfold timesF; omega))
  clear hk
  go_enter Tryz.func87, Tryz.ntmps87
  go_wp2_with fail
  go_ret
  exact ⟨ret_bool HF.out.symm, (Below.refl _ _).alloc (Nat.le_refl _) _⟩
set_option maxRecDepth 100000 in
set_option maxHeartbeats 2000000 in
theorem rt_high (t : Tr) (w : World) (hn : t.n = t.parts.length) (hl : t.parts.length ≤ 9223372036854775807) (hk : t.kind = 7 ∧ ¬ t.lo < 0 ∧ 20 < t.lo) :
    Calls Tryz.prog 87 #[.agg t.cs.toArray] w fun e w' => e = .returned (.bool (rtB t)) ∧ Below w.heap.size w w' := by
  have HA0 := Lib.hid (At.new w 27 t.cs.toArray)
  obtain ⟨c0, c5, c6, c7, c8⟩ := At.tr_cell HA0.out
  rw [hn] at c5
  have HN := Lib.hid hn
  clear hn
  have dk := (int_eq (show t.kind = 7 by omega)).1
  have dkx := (int_eq (show t.kind = 7 by omega)).2
  have el : ¬ (t.lo < 0) := by omega
  have dl := dec_f el
  have em : 20 < t.lo := by omega
  have dm := dec_t em
  have HF := Lib.hid (show rtB t = false from decide_eq_false (by unfold timesF; omega))
  clear hk
  go_enter Tryz.func87, Tryz.ntmps87
  go_wp2_with fail
  go_ret
  exact ⟨ret_bool HF.out.symm, (Below.refl _ _).alloc (Nat.le_refl _) _⟩
set_option maxRecDepth 100000 in
set_option maxHeartbeats 2000000 in
theorem rt_free (t : Tr) (w : World) (hn : t.n = t.parts.length) (hl : t.parts.length ≤ 9223372036854775807) (hk : t.kind = 7 ∧ (¬ t.lo < 0 ∧ ¬ 20 < t.lo) ∧ t.hi = -1) :
    Calls Tryz.prog 87 #[.agg t.cs.toArray] w fun e w' => e = .returned (.bool (rtB t)) ∧ Below w.heap.size w w' := by
  have HA0 := Lib.hid (At.new w 27 t.cs.toArray)
  obtain ⟨c0, c5, c6, c7, c8⟩ := At.tr_cell HA0.out
  rw [hn] at c5
  have HN := Lib.hid hn
  clear hn
  have dk := (int_eq (show t.kind = 7 by omega)).1
  have dkx := (int_eq (show t.kind = 7 by omega)).2
  have el : ¬ (t.lo < 0) := by omega
  have dl := dec_f el
  have em : ¬ (20 < t.lo) := by omega
  have dm := dec_f em
  have dh := (int_eq (show t.hi = -1 by omega)).1
  have dhx := (int_eq (show t.hi = -1 by omega)).2
  have HF := Lib.hid (show rtB t = true from decide_eq_true (by unfold timesF; omega))
  clear hk
  go_enter Tryz.func87, Tryz.ntmps87
  go_wp2_with fail
  go_ret
  exact ⟨ret_bool HF.out.symm, (Below.refl _ _).alloc (Nat.le_refl _) _⟩
set_option maxRecDepth 100000 in
set_option maxHeartbeats 2000000 in
theorem rt_lessa (t : Tr) (w : World) (hn : t.n = t.parts.length) (hl : t.parts.length ≤ 9223372036854775807) (hk : t.kind = 7 ∧ (¬ t.lo < 0 ∧ ¬ 20 < t.lo) ∧ ¬ t.hi = -1 ∧ 1 ≤ t.lo ∧ t.hi < t.lo) :
    Calls Tryz.prog 87 #[.agg t.cs.toArray] w fun e w' => e = .returned (.bool (rtB t)) ∧ Below w.heap.size w w' := by
  have HA0 := Lib.hid (At.new w 27 t.cs.toArray)
  obtain ⟨c0, c5, c6, c7, c8⟩ := At.tr_cell HA0.out
  rw [hn] at c5
  have HN := Lib.hid hn
  clear hn
  have dk := (int_eq (show t.kind = 7 by omega)).1
  have dkx := (int_eq (show t.kind = 7 by omega)).2
  have el : ¬ (t.lo < 0) := by omega
  have dl := dec_f el
  have em : ¬ (20 < t.lo) := by omega
  have dm := dec_f em
  have dh := (int_ne (show ¬ t.hi = -1 by omega)).1
  have dhx := (int_ne (show ¬ t.hi = -1 by omega)).2
  have ex : 1 ≤ t.lo := by omega
  have dx := dec_t ex
  have el : ¬ t.lo ≤ t.hi := by omega
  have dl2 := dec_f el
  have HF := Lib.hid (show rtB t = false from decide_eq_false (by unfold timesF; omega))
  clear hk
  go_enter Tryz.func87, Tryz.ntmps87
  go_wp2_with fail
  go_ret
  exact ⟨ret_bool HF.out.symm, (Below.refl _ _).alloc (Nat.le_refl _) _⟩
set_option maxRecDepth 100000 in
set_option maxHeartbeats 2000000 in
theorem rt_morea (t : Tr) (w : World) (hn : t.n = t.parts.length) (hl : t.parts.length ≤ 9223372036854775807) (hk : t.kind = 7 ∧ (¬ t.lo < 0 ∧ ¬ 20 < t.lo) ∧ ¬ t.hi = -1 ∧ 1 ≤ t.lo ∧ t.lo ≤ t.hi ∧ 20 < t.hi) :
    Calls Tryz.prog 87 #[.agg t.cs.toArray] w fun e w' => e = .returned (.bool (rtB t)) ∧ Below w.heap.size w w' := by
  have HA0 := Lib.hid (At.new w 27 t.cs.toArray)
  obtain ⟨c0, c5, c6, c7, c8⟩ := At.tr_cell HA0.out
  rw [hn] at c5
  have HN := Lib.hid hn
  clear hn
  have dk := (int_eq (show t.kind = 7 by omega)).1
  have dkx := (int_eq (show t.kind = 7 by omega)).2
  have el : ¬ (t.lo < 0) := by omega
  have dl := dec_f el
  have em : ¬ (20 < t.lo) := by omega
  have dm := dec_f em
  have dh := (int_ne (show ¬ t.hi = -1 by omega)).1
  have dhx := (int_ne (show ¬ t.hi = -1 by omega)).2
  have ex : 1 ≤ t.lo := by omega
  have dx := dec_t ex
  have el : t.lo ≤ t.hi := by omega
  have dl2 := dec_t el
  have eh : ¬ t.hi ≤ 20 := by omega
  have dh2 := dec_f eh
  have HF := Lib.hid (show rtB t = false from decide_eq_false (by unfold timesF; omega))
  clear hk
  go_enter Tryz.func87, Tryz.ntmps87
  go_wp2_with fail
  go_ret
  exact ⟨ret_bool HF.out.symm, (Below.refl _ _).alloc (Nat.le_refl _) _⟩
set_option maxRecDepth 100000 in
set_option maxHeartbeats 2000000 in
theorem rt_gooda (t : Tr) (w : World) (hn : t.n = t.parts.length) (hl : t.parts.length ≤ 9223372036854775807) (hk : t.kind = 7 ∧ (¬ t.lo < 0 ∧ ¬ 20 < t.lo) ∧ ¬ t.hi = -1 ∧ 1 ≤ t.lo ∧ t.lo ≤ t.hi ∧ t.hi ≤ 20) :
    Calls Tryz.prog 87 #[.agg t.cs.toArray] w fun e w' => e = .returned (.bool (rtB t)) ∧ Below w.heap.size w w' := by
  have HA0 := Lib.hid (At.new w 27 t.cs.toArray)
  obtain ⟨c0, c5, c6, c7, c8⟩ := At.tr_cell HA0.out
  rw [hn] at c5
  have HN := Lib.hid hn
  clear hn
  have dk := (int_eq (show t.kind = 7 by omega)).1
  have dkx := (int_eq (show t.kind = 7 by omega)).2
  have el : ¬ (t.lo < 0) := by omega
  have dl := dec_f el
  have em : ¬ (20 < t.lo) := by omega
  have dm := dec_f em
  have dh := (int_ne (show ¬ t.hi = -1 by omega)).1
  have dhx := (int_ne (show ¬ t.hi = -1 by omega)).2
  have ex : 1 ≤ t.lo := by omega
  have dx := dec_t ex
  have el : t.lo ≤ t.hi := by omega
  have dl2 := dec_t el
  have eh : t.hi ≤ 20 := by omega
  have dh2 := dec_t eh
  have HF := Lib.hid (show rtB t = true from decide_eq_true (by unfold timesF; omega))
  clear hk
  go_enter Tryz.func87, Tryz.ntmps87
  go_wp2_with fail
  go_ret
  exact ⟨ret_bool HF.out.symm, (Below.refl _ _).alloc (Nat.le_refl _) _⟩
set_option maxRecDepth 100000 in
set_option maxHeartbeats 2000000 in
theorem rt_lessb (t : Tr) (w : World) (hn : t.n = t.parts.length) (hl : t.parts.length ≤ 9223372036854775807) (hk : t.kind = 7 ∧ (¬ t.lo < 0 ∧ ¬ 20 < t.lo) ∧ ¬ t.hi = -1 ∧ ¬ 1 ≤ t.lo ∧ t.hi < 1) :
    Calls Tryz.prog 87 #[.agg t.cs.toArray] w fun e w' => e = .returned (.bool (rtB t)) ∧ Below w.heap.size w w' := by
  have HA0 := Lib.hid (At.new w 27 t.cs.toArray)
  obtain ⟨c0, c5, c6, c7, c8⟩ := At.tr_cell HA0.out
  rw [hn] at c5
  have HN := Lib.hid hn
  clear hn
  have dk := (int_eq (show t.kind = 7 by omega)).1
  have dkx := (int_eq (show t.kind = 7 by omega)).2
  have el : ¬ (t.lo < 0) := by omega
  have dl := dec_f el
  have em : ¬ (20 < t.lo) := by omega
  have dm := dec_f em
  have dh := (int_ne (show ¬ t.hi = -1 by omega)).1
  have dhx := (int_ne (show ¬ t.hi = -1 by omega)).2
  have ex : ¬ (1 ≤ t.lo) := by omega
  have dx := dec_f ex
  have ex2 : t.lo < 1 := by omega
  have el : ¬ 1 ≤ t.hi := by omega
  have dl2 := dec_f el
  have HF := Lib.hid (show rtB t = false from decide_eq_false (by unfold timesF; omega))
  clear hk
  go_enter Tryz.func87, Tryz.ntmps87
  go_wp2_with fail
  go_ret
  exact ⟨ret_bool HF.out.symm, (Below.refl _ _).alloc (Nat.le_refl _) _⟩
set_option maxRecDepth 100000 in
set_option maxHeartbeats 2000000 in
theorem rt_moreb (t : Tr) (w : World) (hn : t.n = t.parts.length) (hl : t.parts.length ≤ 9223372036854775807) (hk : t.kind = 7 ∧ (¬ t.lo < 0 ∧ ¬ 20 < t.lo) ∧ ¬ t.hi = -1 ∧ ¬ 1 ≤ t.lo ∧ 1 ≤ t.hi ∧ 20 < t.hi) :
    Calls Tryz.prog 87 #[.agg t.cs.toArray] w fun e w' => e = .returned (.bool (rtB t)) ∧ Below w.heap.size w w' := by
  have HA0 := Lib.hid (At.new w 27 t.cs.toArray)
  obtain ⟨c0, c5, c6, c7, c8⟩ := At.tr_cell HA0.out
  rw [hn] at c5
  have HN := Lib.hid hn
  clear hn
  have dk := (int_eq (show t.kind = 7 by omega)).1
  have dkx := (int_eq (show t.kind = 7 by omega)).2
  have el : ¬ (t.lo < 0) := by omega
  have dl := dec_f el
  have em : ¬ (20 < t.lo) := by omega
  have dm := dec_f em
  have dh := (int_ne (show ¬ t.hi = -1 by omega)).1
  have dhx := (int_ne (show ¬ t.hi = -1 by omega)).2
  have ex : ¬ (1 ≤ t.lo) := by omega
  have dx := dec_f ex
  have ex2 : t.lo < 1 := by omega
  have el : 1 ≤ t.hi := by omega
  have dl2 := dec_t el
  have eh : ¬ t.hi ≤ 20 := by omega
  have dh2 := dec_f eh
  have HF := Lib.hid (show rtB t = false from decide_eq_false (by unfold timesF; omega))
  clear hk
  go_enter Tryz.func87, Tryz.ntmps87
  go_wp2_with fail
  go_ret
  exact ⟨ret_bool HF.out.symm, (Below.refl _ _).alloc (Nat.le_refl _) _⟩
set_option maxRecDepth 100000 in
set_option maxHeartbeats 2000000 in
theorem rt_goodb (t : Tr) (w : World) (hn : t.n = t.parts.length) (hl : t.parts.length ≤ 9223372036854775807) (hk : t.kind = 7 ∧ (¬ t.lo < 0 ∧ ¬ 20 < t.lo) ∧ ¬ t.hi = -1 ∧ ¬ 1 ≤ t.lo ∧ 1 ≤ t.hi ∧ t.hi ≤ 20) :
    Calls Tryz.prog 87 #[.agg t.cs.toArray] w fun e w' => e = .returned (.bool (rtB t)) ∧ Below w.heap.size w w' := by
  have HA0 := Lib.hid (At.new w 27 t.cs.toArray)
  obtain ⟨c0, c5, c6, c7, c8⟩ := At.tr_cell HA0.out
  rw [hn] at c5
  have HN := Lib.hid hn
  clear hn
  have dk := (int_eq (show t.kind = 7 by omega)).1
  have dkx := (int_eq (show t.kind = 7 by omega)).2
  have el : ¬ (t.lo < 0) := by omega
  have dl := dec_f el
  have em : ¬ (20 < t.lo) := by omega
  have dm := dec_f em
  have dh := (int_ne (show ¬ t.hi = -1 by omega)).1
  have dhx := (int_ne (show ¬ t.hi = -1 by omega)).2
  have ex : ¬ (1 ≤ t.lo) := by omega
  have dx := dec_f ex
  have ex2 : t.lo < 1 := by omega
  have el : 1 ≤ t.hi := by omega
  have dl2 := dec_t el
  have eh : t.hi ≤ 20 := by omega
  have dh2 := dec_t eh
  have HF := Lib.hid (show rtB t = true from decide_eq_true (by unfold timesF; omega))
  clear hk
  go_enter Tryz.func87, Tryz.ntmps87
  go_wp2_with fail
  go_ret
  exact ⟨ret_bool HF.out.symm, (Below.refl _ _).alloc (Nat.le_refl _) _⟩
theorem treeRightTimes (t : Tr) (w : World) (hn : t.n = t.parts.length) (hl : t.parts.length ≤ 9223372036854775807) :
    Calls Tryz.prog 87 #[.agg t.cs.toArray] w fun e w' => e = .returned (.bool (rtB t)) ∧ Below w.heap.size w w' := by
  by_cases h7 : t.kind = 7
  · by_cases h1 : t.lo < 0
    · exact rt_low t w hn hl ⟨h7, h1⟩
    by_cases h2 : 20 < t.lo
    · exact rt_high t w hn hl ⟨h7, h1, h2⟩
    by_cases h3 : t.hi = -1
    · exact rt_free t w hn hl ⟨h7, ⟨h1, h2⟩, h3⟩
    by_cases h4 : 1 ≤ t.lo
    · by_cases h5 : t.hi < t.lo
      · exact rt_lessa t w hn hl ⟨h7, ⟨h1, h2⟩, h3, h4, h5⟩
      by_cases h6 : 20 < t.hi
      · exact rt_morea t w hn hl ⟨h7, ⟨h1, h2⟩, h3, h4, by omega, h6⟩
      · exact rt_gooda t w hn hl ⟨h7, ⟨h1, h2⟩, h3, h4, by omega, by omega⟩
    · by_cases h5 : t.hi < 1
      · exact rt_lessb t w hn hl ⟨h7, ⟨h1, h2⟩, h3, h4, h5⟩
      by_cases h6 : 20 < t.hi
      · exact rt_moreb t w hn hl ⟨h7, ⟨h1, h2⟩, h3, h4, by omega, h6⟩
      · exact rt_goodb t w hn hl ⟨h7, ⟨h1, h2⟩, h3, h4, by omega, by omega⟩
  · by_cases h1 : t.lo = 0
    · by_cases h2 : t.hi = 0
      · exact rt_plain t w hn hl ⟨h7, h1, h2⟩
      · exact rt_hi t w hn hl ⟨h7, h1, h2⟩
    · exact rt_lo t w hn hl ⟨h7, h1⟩

end Go.Proofs.YtcghclikkeajfaaGreat

/- tree's own size of a pattern, against the reference's depth and size. No program is named here. -/
namespace Go.Proofs.YtcghclikkeajfaaGreat
open Go.RowKit

def maxT (lo hi : Int) : Int := if hi ≤ lo then (if 1 ≤ lo then lo else 1) else (if 1 ≤ hi then hi else 1)
def oftenS (kind lo hi s : Int) : Int := if kind = 7 ∧ 0 < s then cut1001 (maxT lo hi) else 1
def sizeF : Nat → Int → Tr → Int
  | 0, _, _ => 0
  | k + 1, L, t => if 40 < L then 1001 else cut1001 (1 + sumS (t.parts.map (sizeF k (L + 1))) * oftenS t.kind t.lo t.hi (sumS (t.parts.map (sizeF k (L + 1)))))
theorem maxT_ge (lo hi : Int) : 1 ≤ maxT lo hi := by unfold maxT; (repeat' split) <;> omega
theorem often_ge (kind lo hi s : Int) : 1 ≤ oftenS kind lo hi s ∧ oftenS kind lo hi s ≤ 1001 := by
  have := maxT_ge lo hi
  unfold oftenS cut1001; (repeat' split) <;> omega
theorem sizeF_ge : ∀ (k : Nat) (L : Int) (t : Tr), 0 ≤ sizeF k L t
  | 0, _, _ => Int.le_refl _
  | k + 1, L, t => by
    show 0 ≤ (if 40 < L then 1001 else cut1001 (1 + _ * _))
    split
    · omega
    · refine cut1001_ge _ ?_
      have h := sumS_ge (t.parts.map (sizeF k (L + 1))) (by
        intro x hx
        rw [List.mem_map] at hx
        obtain ⟨p, _, rfl⟩ := hx
        exact sizeF_ge k _ p)
      have := Int.mul_nonneg h (show 0 ≤ oftenS t.kind t.lo t.hi (sumS (t.parts.map (sizeF k (L + 1)))) by have := often_ge t.kind t.lo t.hi (sumS (t.parts.map (sizeF k (L + 1)))); omega)
      omega
theorem sizeF_le (k : Nat) (L : Int) (t : Tr) : sizeF k L t ≤ 1001 := by
  cases k with
  | zero => show (0 : Int) ≤ 1001; omega
  | succ k =>
    show (if 40 < L then 1001 else cut1001 (1 + _ * _)) ≤ 1001
    split
    · omega
    · exact cut1001_le _
def sizeFTo (k : Nat) (L : Int) (t : Tr) (j : Nat) : Int := sumS ((t.parts.take j).map (sizeF k L))
theorem sizeFTo_zero (k : Nat) (L : Int) (t : Tr) : sizeFTo k L t 0 = 0 := rfl
theorem sizeFTo_succ (k : Nat) (L : Int) (t : Tr) (j : Nat) (h : j < t.parts.length) : sizeFTo k L t (j + 1) = cut1001 (sizeFTo k L t j + sizeF k L t.parts[j]) := by
  unfold sizeFTo; rw [List.take_succ_eq_append_getElem h, List.map_append, List.map_singleton, sumS_snoc]
theorem sizeFTo_mono (k : Nat) (L : Int) (t : Tr) (j : Nat) : ∀ i, sizeFTo k L t j = 1001 → j + i ≤ t.parts.length → sizeFTo k L t (j + i) = 1001
  | 0, h, _ => h
  | i + 1, h, hl => by
    have h1 := sizeFTo_mono k L t j i h (by omega)
    rw [show j + (i + 1) = (j + i) + 1 by omega, sizeFTo_succ k L t (j + i) (by omega), h1]
    have := sizeF_ge k L (t.parts[j + i]'(by omega))
    unfold cut1001; split <;> omega
theorem sizeF_deep (k : Nat) {L : Int} (t : Tr) (h : 40 < L) : sizeF (k + 1) L t = 1001 := by show (if _ then _ else _) = _; rw [if_pos h]
theorem sizeF_end (k : Nat) {L : Int} (t : Tr) (h : ¬ 40 < L) : cut1001 (1 + sizeFTo k (L + 1) t t.parts.length * oftenS t.kind t.lo t.hi (sizeFTo k (L + 1) t t.parts.length)) = sizeF (k + 1) L t := by
  unfold sizeFTo; rw [List.take_length]; show _ = (if _ then _ else _); rw [if_neg h]
theorem sizeF_early (k : Nat) {L : Int} (t : Tr) (h : ¬ 40 < L) (j : Nat) (hj : j < t.parts.length) (hs : 1001 ≤ sizeFTo k (L + 1) t j + sizeF k (L + 1) t.parts[j]) : sizeF (k + 1) L t = 1001 := by
  have h1 : sizeFTo k (L + 1) t (j + 1) = 1001 := by rw [sizeFTo_succ k (L + 1) t j hj]; unfold cut1001; split <;> omega
  have h2 := sizeFTo_mono k (L + 1) t (j + 1) (t.parts.length - (j + 1)) h1 (by omega)
  rw [show j + 1 + (t.parts.length - (j + 1)) = t.parts.length by omega] at h2
  rw [← sizeF_end k t h, h2]
  obtain ⟨o, ho⟩ : ∃ o, oftenS t.kind t.lo t.hi 1001 = o := ⟨_, rfl⟩
  have := often_ge t.kind t.lo t.hi 1001
  rw [ho] at this ⊢
  unfold cut1001; split <;> omega
theorem sumS_big : ∀ (l : List Int), (∀ x ∈ l, 0 ≤ x) → 1001 ∈ l → sumS l = 1001 := by
  have key : ∀ (l : List Int) (a : Int), 0 ≤ a → a ≤ 1001 → (∀ x ∈ l, 0 ≤ x) → (a = 1001 ∨ 1001 ∈ l) → l.foldl (fun n x => cut1001 (n + x)) a = 1001 := by
    intro l
    induction l with
    | nil => intro a _ _ _ h; rcases h with h | h; exact h; cases h
    | cons y r ih =>
      intro a h0 h1 hl h
      rw [List.foldl_cons]
      have hy := hl y (by simp)
      refine ih _ (cut1001_ge _ (by omega)) (cut1001_le _) (fun x hx => hl x (List.mem_cons_of_mem _ hx)) ?_
      rcases h with h | h
      · left; unfold cut1001; split <;> omega
      · rcases List.mem_cons.1 h with e | h
        · left; unfold cut1001; split <;> omega
        · exact Or.inr h
  intro l hl h
  exact key l 0 (by omega) (by omega) hl (Or.inr h)
theorem maxl_mem (l : List Int) : maxl l = 0 ∨ maxl l ∈ l := by
  have key : ∀ (l : List Int) (a : Int), l.foldl max a = a ∨ l.foldl max a ∈ l := by
    intro l
    induction l with
    | nil => intro a; exact Or.inl rfl
    | cons y r ih =>
      intro a
      rw [List.foldl_cons]
      rcases ih (max a y) with h | h
      · rw [h]
        by_cases q : y ≤ a
        · exact Or.inl (by omega)
        · exact Or.inr (by rw [show max a y = y by omega]; simp)
      · exact Or.inr (List.mem_cons_of_mem _ h)
  exact key l 0
theorem maxl_all (l : List Int) (x : Int) (hx : x ∈ l) : x ≤ maxl l := by
  have : ∀ (l : List Int) (a x : Int), (x ∈ l ∨ x ≤ a) → x ≤ l.foldl max a := by
    intro l
    induction l with
    | nil => intro a x h; rcases h with h | h; cases h; exact h
    | cons y r ih =>
      intro a x h
      rw [List.foldl_cons]
      refine ih _ _ ?_
      rcases h with h | h
      · rcases List.mem_cons.1 h with rfl | h
        · exact Or.inr (by omega)
        · exact Or.inl h
      · exact Or.inr (by omega)
  exact this l 0 x (Or.inl hx)
theorem often_times (kind lo hi s : Int) (h0 : 0 ≤ s) : cut1001 (1 + s * oftenS kind lo hi s) = cut1001 ((if kind = 7 then s * timesS lo hi else s) + 1) := by
  by_cases h7 : kind = 7
  · rw [if_pos h7]
    by_cases hs : 0 < s
    · have e : oftenS kind lo hi s = cut1001 (maxT lo hi) := by unfold oftenS; rw [if_pos ⟨h7, hs⟩]
      rw [e]
      have hm := maxT_ge lo hi
      by_cases q : maxT lo hi ≤ 1001
      · have e2 : timesS lo hi = maxT lo hi := by unfold timesS timesLo cut2000; unfold maxT at q ⊢; (repeat' split) <;> (repeat' split at q) <;> omega
        rw [e2, cut1001_no (x := maxT lo hi) (by omega), Int.add_comm]
      · have e2 : 1002 ≤ timesS lo hi := by unfold timesS timesLo cut2000; unfold maxT at q; (repeat' split at q) <;> (repeat' split) <;> omega
        rw [cut1001_yes (by omega : 1001 < maxT lo hi)]
        have a1 : 1002 ≤ s * timesS lo hi := by
          have := Int.mul_le_mul (show (1 : Int) ≤ s by omega) e2 (by omega) (by omega)
          omega
        rw [cut1001_yes (by omega), cut1001_yes (by omega)]
    · have : s = 0 := by omega
      subst this
      rw [Int.zero_mul, Int.zero_mul]; rfl
  · rw [if_neg h7]
    have e : oftenS kind lo hi s = 1 := by unfold oftenS; rw [if_neg (fun q => h7 q.1)]
    rw [e, Int.mul_one, Int.add_comm]
theorem sizeF_is : ∀ (k : Nat) (L : Int) (t : Tr), L ≤ 41 → sizeF k L t = if 41 - L < deepS k (41 - L) t then 1001 else sizeS k t
  | 0, L, t, h => by
    show (0 : Int) = if 41 - L < 0 then 1001 else 0
    rw [if_neg (by omega)]
  | k + 1, L, t, h => by
    show (if 40 < L then 1001 else _) = if 41 - L < (if 41 - L < 1 then 1 else 1 + maxl (t.parts.map (deepS k (41 - L - 1)))) then 1001 else _
    by_cases hL : 40 < L
    · rw [if_pos hL, if_pos (by rw [if_pos (by omega)]; omega)]
    · rw [if_neg hL, if_neg (show ¬ 41 - L < 1 by omega)]
      have ih : ∀ p, sizeF k (L + 1) p = if 41 - L - 1 < deepS k (41 - L - 1) p then 1001 else sizeS k p := fun p => by
        have := sizeF_is k (L + 1) p (by omega)
        rwa [show 41 - (L + 1) = 41 - L - 1 by omega] at this
      by_cases hd : 41 - L < 1 + maxl (t.parts.map (deepS k (41 - L - 1)))
      · rw [if_pos hd]
        rcases maxl_mem (t.parts.map (deepS k (41 - L - 1))) with hz | hm
        · omega
        · rw [List.mem_map] at hm
          obtain ⟨p, hp, he⟩ := hm
          have hb : sumS (t.parts.map (sizeF k (L + 1))) = 1001 := sumS_big _ (by
            intro x hx
            rw [List.mem_map] at hx
            obtain ⟨p, _, rfl⟩ := hx
            exact sizeF_ge k _ p) (List.mem_map.2 ⟨p, hp, by rw [ih p, if_pos (by omega)]⟩)
          rw [hb]
          obtain ⟨o, ho⟩ : ∃ o, oftenS t.kind t.lo t.hi 1001 = o := ⟨_, rfl⟩
          have := often_ge t.kind t.lo t.hi 1001
          rw [ho] at this ⊢
          unfold cut1001; split <;> omega
      · rw [if_neg hd]
        have e : t.parts.map (sizeF k (L + 1)) = t.parts.map (sizeS k) := List.map_congr_left fun p hp => by
          have := maxl_all (t.parts.map (deepS k (41 - L - 1))) _ (List.mem_map.2 ⟨p, hp, rfl⟩)
          rw [ih p, if_neg (by omega)]
        rw [e, often_times _ _ _ _ (sumS_ge _ (by
          intro x hx
          rw [List.mem_map] at hx
          obtain ⟨p, _, rfl⟩ := hx
          exact sizeS_ge k p))]
        rfl
theorem sizeF_top (k : Nat) (t : Tr) : (decide (sizeF k 1 t ≤ 1000) && formedS k t) = (decide (deepS k 40 t < 41) && (formedS k t && decide (sizeS k t < 1001))) := by
  have h := sizeF_is k 1 t (by omega)
  rw [show (41 : Int) - 1 = 40 by omega] at h
  rw [h]
  by_cases hd : 40 < deepS k 40 t
  · rw [if_pos hd, decide_eq_false (by omega), decide_eq_false (show ¬ deepS k 40 t < 41 by omega)]; rfl
  · rw [if_neg hd, decide_eq_true (show deepS k 40 t < 41 by omega), Bool.true_and, Bool.and_comm]
    congr 1
    exact decide_eq_decide.2 (by omega)

end Go.Proofs.YtcghclikkeajfaaGreat

/- What tree's formedAlone, allFormed, sizeFrom, Size and Formed answer. -/
namespace Go.Proofs.YtcghclikkeajfaaGreat
open Go.RowKit
set_option linter.unusedSimpArgs false
set_option linter.unusedVariables false

def lokB (t : Tr) : Bool := decide (t.kind = 2 ∨ t.set.eqb St.nil = true)
def negB (t : Tr) : Bool := decide (t.kind = 8 ∨ t.kind = 9 ∨ t.neg = false)
theorem own_split (t : Tr) : ownF t = (rpB t && (rtB t && (lokB t && negB t))) := by
  unfold ownF rpB rtB lokB negB
  rw [← Bool.decide_and, ← Bool.decide_and, ← Bool.decide_and]
  apply decide_eq_decide.2
  constructor
  · rintro ⟨a, b, c, d, e, f⟩; exact ⟨⟨a, b⟩, ⟨e, f⟩, c, d⟩
  · rintro ⟨⟨a, b⟩, ⟨e, f⟩, c, d⟩; exact ⟨a, b, c, d, e, f⟩

set_option maxRecDepth 100000 in
set_option maxHeartbeats 4000000 in
theorem treeFormedAlone (t : Tr) (w : World) (hn : t.n = t.parts.length) (hl : t.parts.length ≤ 9223372036854775807) :
    Calls Tryz.prog 69 #[.agg t.cs.toArray] w fun e w' => e = .returned (.bool (ownF t)) ∧ Below w.heap.size w w' := by
  have hA : At (w.alloc (Obj.cells t.cs.toArray 27)) w.heap.size 27 t.cs.toArray := At.new _ _ _
  have hB : Below w.heap.size w (w.alloc (Obj.cells t.cs.toArray 27)) := (Below.refl _ _).alloc (Nat.le_refl _) _
  have HO := Lib.hid (own_split t)
  obtain ⟨p, hp⟩ : ∃ p : Bool, rpB t = p := ⟨_, rfl⟩
  obtain ⟨r, hr⟩ : ∃ r : Bool, rtB t = r := ⟨_, rfl⟩
  have HP := Lib.hid hp
  have HR := Lib.hid hr
  have HN := Lib.hid hn
  clear hp hr hn
  go_enter Tryz.func69, Tryz.ntmps69
  go_wp2_with (first | (refine wpList_load_row rfl 27 _ rfl w.heap.size rfl 27 t.cs.toArray (0, 0) _ hA Tryz.underlying27 rfl (by kernel_rfl) ?_) | fail)
  refine (treeRightParts t _ HN.out hl).mono ?_
  rintro e w1 ⟨rfl, hb1⟩
  rw [HP.out]
  have hA := hA.step hb1 rfl
  have hB := below_step hB hb1 rfl rfl rfl rfl
  clear hb1
  cases p
  · have HF : Hid (ownF t = false) := by rw [HO.out, HP.out]; exact rfl
    go_wp2_with fail
    go_ret
    exact ⟨ret_bool HF.out.symm, hB⟩
  · go_wp2_with (first | (refine wpList_load_row_want (by rfl) 27 _ rfl w.heap.size rfl 27 t.cs.toArray (0, 0) _ hA Tryz.underlying27 rfl (by kernel_rfl) ?_) | fail)
    refine (treeRightTimes t _ HN.out hl).mono ?_
    rintro e w2 ⟨rfl, hb2⟩
    rw [HR.out]
    have hA := hA.step hb2 rfl
    have hB := below_step hB hb2 rfl rfl rfl rfl
    clear hb2
    cases r
    · have HF : Hid (ownF t = false) := by rw [HO.out, HP.out, HR.out]; exact rfl
      go_wp2_with fail
      go_ret
      exact ⟨ret_bool HF.out.symm, hB⟩
    · have HO2 : Hid (ownF t = (lokB t && negB t)) := by rw [HO.out, HP.out, HR.out]; exact rfl
      obtain ⟨c0, c5, c6, c7, c8⟩ := At.tr_cell hA
      obtain ⟨s1, s2, s3, s4⟩ := At.tr_set hA
      have HA := Lib.hid hA
      clear hA c5 c6 c7
      have last : ∀ v : Bool, lokB t = v → Hid (ownF t = (v && negB t)) := fun v h => by rw [HO2.out, h]; exact rfl
      by_cases h2 : t.kind = 2
      · have d2 := (int_eq h2).1
        have d8 := (int_ne (show ¬ t.kind = 8 by omega)).1
        have d9 := (int_ne (show ¬ t.kind = 9 by omega)).1
        have HL := last true (decide_eq_true (Or.inl h2))
        obtain ⟨g, hg⟩ : ∃ g : Bool, t.neg = g := ⟨_, rfl⟩
        have HG : Hid (negB t = !g) := Lib.hid (by rw [← hg]; exact negB_at (by omega) (by omega))
        rw [hg] at c8
        clear hg h2 last
        cases g
        · go_wp2_with fail
          go_ret
          exact ⟨ret_bool (by rw [HL.out, HG.out]; rfl), hB⟩
        · go_wp2_with fail
          go_ret
          exact ⟨ret_bool (by rw [HL.out, HG.out]; rfl), hB⟩
      · have d2 := (int_ne h2).1
        by_cases hs : t.set.eqb St.nil = true
        · have ds : ∀ W, (Op.equalIn 10000 24 (.agg #[.int .u64 t.set.w0, .int .u64 t.set.w1, .int .u64 t.set.w2, .int .u64 t.set.w3]) (.agg #[.int .u64 0, .int .u64 0, .int .u64 0, .int .u64 0])).run Tryz.prog W = .ok true W := fun W => setEq W t.set St.nil true hs
          have HL := last true (decide_eq_true (Or.inr hs))
          clear last hs h2
          by_cases h8 : t.kind = 8
          · have d8 := (int_eq h8).1
            have HG : Hid (negB t = true) := decide_eq_true (Or.inl h8)
            clear h8
            go_wp2_with fail
            go_ret
            exact ⟨ret_bool (by rw [HL.out, HG.out]; rfl), hB⟩
          by_cases h9 : t.kind = 9
          · have d8 := (int_ne h8).1
            have d9 := (int_eq h9).1
            have HG : Hid (negB t = true) := decide_eq_true (Or.inr (Or.inl h9))
            clear h8 h9
            go_wp2_with fail
            go_ret
            exact ⟨ret_bool (by rw [HL.out, HG.out]; rfl), hB⟩
          · have d8 := (int_ne h8).1
            have d9 := (int_ne h9).1
            obtain ⟨g, hg⟩ : ∃ g : Bool, t.neg = g := ⟨_, rfl⟩
            have HG : Hid (negB t = !g) := Lib.hid (by rw [← hg]; exact negB_at h8 h9)
            rw [hg] at c8
            clear hg h8 h9
            cases g
            · go_wp2_with fail
              go_ret
              exact ⟨ret_bool (by rw [HL.out, HG.out]; rfl), hB⟩
            · go_wp2_with fail
              go_ret
              exact ⟨ret_bool (by rw [HL.out, HG.out]; rfl), hB⟩
        · have hs' : t.set.eqb St.nil = false := by simpa using hs
          have ds : ∀ W, (Op.equalIn 10000 24 (.agg #[.int .u64 t.set.w0, .int .u64 t.set.w1, .int .u64 t.set.w2, .int .u64 t.set.w3]) (.agg #[.int .u64 0, .int .u64 0, .int .u64 0, .int .u64 0])).run Tryz.prog W = .ok false W := fun W => setEq W t.set St.nil false hs'
          have HL := last false (decide_eq_false (fun q => by rcases q with q | q; exact h2 q; exact hs q))
          clear last hs hs' h2
          go_wp2_with fail
          go_ret
          exact ⟨ret_bool (by rw [HL.out]; rfl), hB⟩

def AllFormedAt (k : Nat) : Prop := ∀ (t : Tr) (w : World), Tr.In w k t → Calls Tryz.prog 50 #[.agg t.cs.toArray] w fun e w' => e = .returned (.bool (formedS k t)) ∧ Below w.heap.size w w'
set_option maxRecDepth 100000 in
set_option maxHeartbeats 4000000 in
theorem treeAllFormed : ∀ k, AllFormedAt k
  | 0 => fun _ _ h => h.elim
  | k + 1 => fun t w h => by
    have hlen : t.parts.length ≤ 9223372036854775807 := by have := h.2.1; omega
    have HN := Lib.hid h.2.1.1
    have HI := Lib.hid h
    have HIH := Lib.hid (treeAllFormed k)
    clear h
    have hA : At (w.alloc (Obj.cells t.cs.toArray 27)) w.heap.size 27 t.cs.toArray := At.new _ _ _
    have hB : Below w.heap.size w (w.alloc (Obj.cells t.cs.toArray 27)) := (Below.refl _ _).alloc (Nat.le_refl _) _
    obtain ⟨o, ho⟩ : ∃ o : Bool, ownF t = o := ⟨_, rfl⟩
    have HO := Lib.hid ho
    clear ho
    go_enter Tryz.func50, Tryz.ntmps50
    go_wp2_with (first | (refine wpList_load_row rfl 27 _ rfl w.heap.size rfl 27 t.cs.toArray (0, 0) _ hA Tryz.underlying27 rfl (by kernel_rfl) ?_) | fail)
    refine (treeFormedAlone t _ HN.out hlen).mono ?_
    rintro e w1 ⟨rfl, hb1⟩
    rw [HO.out]
    have hA := hA.step hb1 rfl
    have hB := below_step hB hb1 rfl rfl rfl rfl
    clear hb1
    cases o
    · go_wp2_with fail
      go_ret
      exact ⟨ret_bool (formedS_own HO.out).symm, hB⟩
    · have HA := Lib.hid hA
      have HB := Lib.hid hB
      have c5 := (At.tr_cell hA).2.1
      rw [HN.out] at c5
      clear hA hB
      go_wp2_with fail
      go_loopw [11] (fun i wr => ∃ j : Nat, j ≤ t.parts.length ∧ i = .int .i64 j ∧ Hid (formedTo k t j = true) ∧ Hid (At wr w.heap.size 27 t.cs.toArray) ∧ Hid (Below w.heap.size w wr)) (fun i _ => t.parts.length - (intOf i).toNat)
      case atStart => exact ⟨0, Nat.zero_le _, rfl, Lib.hid (formedTo_zero _), HA, HB⟩
      case round =>
        clear HA HB c5
        obtain ⟨j, hj, rfl, hT, hA, hB⟩ := hrel
        by_cases hlt : j < t.parts.length
        · obtain ⟨b, off, ha, hb, hr⟩ := HI.out.2.2.1 (by rw [HN.out]; omega)
          have HR := Lib.hid (range_below (hr j hlt) hb (Nat.le_refl _) hB.out)
          have HP := Lib.hid (Tr.In.next (HI.out.2.2.2 j hlt) hB.out)
          have hA2 := boxW_at wr t.parts[j]
          have HP2 := Lib.hid (HP.out.next (boxW_next wr t.parts[j]))
          clear hr hb
          rw [ha]
          clear ha
          have hjz : (0 : Int) ≤ (j : Int) := by omega
          have hjn : (j : Int) < (t.parts.length : Int) := by omega
          obtain ⟨v, hv⟩ : ∃ v : Bool, formedS k t.parts[j] = v := ⟨_, rfl⟩
          have HV := Lib.hid hv
          clear hv
          go_wp2_with (first
            | (refine wpList_load_mid rfl 27 _ rfl b (off + j * 9) rfl t.parts[j].cs _ HR.out Tryz.underlying27 rfl (by rw [Tr.cs_length]; kernel_rfl) ?_)
            | (refine wpList_store_row rfl 27 _ _ rfl wr.heap.size t.parts[j].cs.toArray rfl rfl 27 Tr.blank.cs.toArray (At.new _ _ _) (by kernel_rfl) rfl (Tr.one _) ?_; change Exit.then _ _ _ _ (boxW wr t.parts[j]))
            | (refine wpList_load_row rfl 27 _ rfl wr.heap.size rfl 27 t.parts[j].cs.toArray (0, 0) _ hA2 Tryz.underlying27 rfl (by kernel_rfl) ?_) | fail)
          refine (HIH.out t.parts[j] _ HP2.out).mono ?_
          rintro e w3 ⟨rfl, hb3⟩
          rw [HV.out]
          have HBx := boxW_below hB.out t.parts[j]
          have HA := Lib.hid ((hA.out.below (boxW_next wr t.parts[j]) hA.out.lt).below hb3 (by rw [boxW_size]; have := hA.out.lt; omega))
          have HB := Lib.hid (HBx.trans (hb3.mono HBx.size))
          clear hb3 hA2 HBx
          cases v
          · go_wp2_with fail
            go_ret
            exact ⟨ret_bool (formedS_not hlt HV.out).symm, HB.out⟩
          · go_wp2_with fail
            exact ⟨⟨j + 1, by omega, by go_num, Lib.hid (formedTo_succ hlt hT.out HV.out), HA, HB⟩, by simp [intOf]; omega⟩
        · obtain rfl : j = t.parts.length := by omega
          have HF := Lib.hid (formedS_yes HO.out hT.out)
          go_wp2_with fail
          go_ret
          exact ⟨ret_bool HF.out.symm, hB.out⟩

end Go.Proofs.YtcghclikkeajfaaGreat

/- What tree's sizeFrom, Size and Formed answer. -/
namespace Go.Proofs.YtcghclikkeajfaaGreat
open Go.RowKit
set_option linter.unusedSimpArgs false
set_option linter.unusedVariables false

def SizeFromAt (k : Nat) : Prop := ∀ (t : Tr) (L : Int) (w : World), 1 ≤ L → L ≤ 41 → Tr.In w k t → Calls Tryz.prog 68 #[.agg t.cs.toArray, .int .i64 L] w fun e w' => e = .returned (.int .i64 (sizeF k L t)) ∧ Below w.heap.size w w'
set_option maxRecDepth 100000 in
set_option maxHeartbeats 8000000 in
theorem treeSizeFrom : ∀ k, SizeFromAt k
  | 0 => fun _ _ _ _ _ h => h.elim
  | k + 1 => fun t L w hL1 hL2 h => by
    have hlen : t.parts.length ≤ 9223372036854775807 := by have := h.2.1; omega
    have hn := h.2.1.1
    have HN := Lib.hid hn
    have HI := Lib.hid h
    have HIH := Lib.hid (treeSizeFrom k)
    have HC := Lib.hid (At.tr_cell (At.new w 27 t.cs.toArray))
    clear h
    have c5 := HC.out.2.1
    rw [hn] at c5
    clear hn
    go_enter Tryz.func68, Tryz.ntmps68
    by_cases hd : 40 < L
    · have dd := dec_t hd
      have HF := Lib.hid (sizeF_deep k t hd)
      go_wp2_with fail
      go_ret
      exact ⟨ret_int HF.out.symm, (Below.refl _ _).alloc (Nat.le_refl _) _⟩
    · have dd := dec_f hd
      have HD := Lib.hid hd
      have hL3 : L ≤ 40 := by omega
      go_wp2_with fail
      go_loopw [5, 14] (fun x i wr => ∃ (j : Nat) (xv : Int), j ≤ t.parts.length ∧ i = .int .i64 j ∧ x = .int .i64 xv ∧ (0 ≤ xv ∧ xv ≤ 1000) ∧ Hid (sizeFTo k (L + 1) t j = xv) ∧ Hid (At wr w.heap.size 27 t.cs.toArray) ∧ Hid (Below w.heap.size w wr)) (fun _ i _ => t.parts.length - (intOf i).toNat)
      case atStart => exact ⟨0, 0, Nat.zero_le _, rfl, rfl, by omega, Lib.hid (sizeFTo_zero _ _ _), Lib.hid (At.new _ _ _), Lib.hid ((Below.refl _ _).alloc (Nat.le_refl _) _)⟩
      case round =>
        clear c5
        obtain ⟨j, x, hj, rfl, rfl, ⟨hx1, hx2⟩, HX, hA, hB⟩ := hrel
        by_cases hlt : j < t.parts.length
        · obtain ⟨b, off, ha, hb, hr⟩ := HI.out.2.2.1 (by rw [HN.out]; omega)
          have HR := Lib.hid (range_below (hr j hlt) hb (Nat.le_refl _) hB.out)
          have HP := Lib.hid (Tr.In.next (HI.out.2.2.2 j hlt) hB.out)
          have hA2 := boxW_at wr t.parts[j]
          have HP2 := Lib.hid (HP.out.next (boxW_next wr t.parts[j]))
          have hy0 := sizeF_ge k (L + 1) t.parts[j]
          have hy1 := sizeF_le k (L + 1) t.parts[j]
          obtain ⟨y, hy⟩ : ∃ y : Int, sizeF k (L + 1) t.parts[j] = y := ⟨_, rfl⟩
          have HE : Hid (1001 ≤ x + y → sizeF (k + 1) L t = 1001) := fun q => sizeF_early k t (show ¬ 40 < L by omega) j hlt (by rw [HX.out, hy]; exact q)
          have HSu : Hid (sizeFTo k (L + 1) t (j + 1) = cut1001 (x + y)) := by have := sizeFTo_succ k (L + 1) t j hlt; rw [HX.out, hy] at this; exact this
          rw [hy] at hy0 hy1
          have HY := Lib.hid hy
          clear hr hb hy
          rw [ha]
          clear ha
          have hjz : (0 : Int) ≤ (j : Int) := by omega
          have hjn : (j : Int) < (t.parts.length : Int) := by omega
          go_wp2_with (first
            | (refine wpList_load_mid rfl 27 _ rfl b (off + j * 9) rfl t.parts[j].cs _ HR.out Tryz.underlying27 rfl (by rw [Tr.cs_length]; kernel_rfl) ?_)
            | (refine wpList_store_row rfl 27 _ _ rfl wr.heap.size t.parts[j].cs.toArray rfl rfl 27 Tr.blank.cs.toArray (At.new _ _ _) (by kernel_rfl) rfl (Tr.one _) ?_; change Exit.then _ _ _ _ (boxW wr t.parts[j]))
            | (refine wpList_load_row rfl 27 _ rfl wr.heap.size rfl 27 t.parts[j].cs.toArray (0, 0) _ hA2 Tryz.underlying27 rfl (by kernel_rfl) ?_) | fail)
          refine (HIH.out t.parts[j] _ _ (by omega) (by omega) HP2.out).mono ?_
          rintro e w3 ⟨rfl, hb3⟩
          rw [HY.out]
          have HBx := boxW_below hB.out t.parts[j]
          have HA := Lib.hid ((hA.out.below (boxW_next wr t.parts[j]) hA.out.lt).below hb3 (by rw [boxW_size]; have := hA.out.lt; omega))
          have HB := Lib.hid (HBx.trans (hb3.mono HBx.size))
          clear hb3 hA2 HBx
          by_cases hg : 1001 ≤ x + y
          · have dg := dec_t hg
            have HF := Lib.hid (HE.out hg)
            go_wp2_with fail
            go_ret
            exact ⟨ret_int HF.out.symm, HB.out⟩
          · have dg := dec_f hg
            have HX2 : Hid (sizeFTo k (L + 1) t (j + 1) = x + y) := by rw [HSu.out, cut1001_no (by omega)]; exact rfl
            go_wp2_with fail
            exact ⟨⟨j + 1, x + y, by omega, by go_num, rfl, by omega, HX2, HA, HB⟩, by simp [intOf]; omega⟩
        · obtain rfl : j = t.parts.length := by omega
          have hS := sizeF_end k t (show ¬ 40 < L by omega)
          rw [HX.out] at hS
          obtain ⟨c0, c5, c6, c7, c8⟩ := At.tr_cell hA.out
          obtain ⟨lo, hlo⟩ : ∃ lo : Int, t.lo = lo := ⟨_, rfl⟩
          obtain ⟨hi, hhi⟩ : ∃ hi : Int, t.hi = hi := ⟨_, rfl⟩
          rw [hlo] at c6 hS
          rw [hhi] at c7 hS
          have hd0 := hx1
          have HS := Lib.hid hS
          clear hlo hhi hS c5 c8
          by_cases h7 : t.kind = 7
          · have d7 := (int_eq h7).1
            have H7 := Lib.hid h7
            clear h7
            by_cases hx0 : 0 < x
            · have dx := dec_t hx0
              by_cases h1 : hi ≤ lo
              · have d1 := dec_t h1
                by_cases h2 : 1 ≤ lo
                · have d2 := dec_t h2
                  by_cases hm : lo ≤ 1001
                  · have hT : oftenS t.kind lo hi x = lo := by unfold oftenS maxT; rw [if_pos ⟨H7.out, hx0⟩]; unfold cut1001; (repeat' split) <;> omega
                    rw [hT] at HS
                    clear hT
                    have hmb := mul_bounds (x := x) (T := lo) hd0 (by omega) (by omega) (by omega)
                    have e1 : wrap64 (x * lo) = x * lo := wrap_same (by unfold I64; omega)
                    have e2 : wrap64 (1 + x * lo) = 1 + x * lo := wrap_same (by unfold I64; omega)
                    have dm := dec_t hm
                    by_cases hg : 1001 < 1 + x * lo
                    · rw [cut1001_yes hg] at HS
                      have hg2 : ¬ 1 + x * lo ≤ 1001 := by omega
                      have dg := dec_f hg2
                      go_wp2_with fail
                      go_ret
                      exact ⟨ret_int HS.out, hB.out⟩
                    · rw [cut1001_no hg] at HS
                      have hg2 : 1 + x * lo ≤ 1001 := by omega
                      have dg := dec_t hg2
                      go_wp2_with fail
                      go_ret
                      exact ⟨ret_int HS.out, hB.out⟩
                  · have hT : oftenS t.kind lo hi x = 1001 := by unfold oftenS maxT; rw [if_pos ⟨H7.out, hx0⟩]; unfold cut1001; (repeat' split) <;> omega
                    rw [hT] at HS
                    clear hT
                    have hmb := mul_bounds (x := x) (T := 1001) hd0 (by omega) (by omega) (by omega)
                    have e1 : wrap64 (x * 1001) = x * 1001 := wrap_same (by unfold I64; omega)
                    have e2 : wrap64 (1 + x * 1001) = 1 + x * 1001 := wrap_same (by unfold I64; omega)
                    have dm := dec_f hm
                    rw [cut1001_yes (by omega)] at HS
                    have hg2 : ¬ 1 + x * 1001 ≤ 1001 := by omega
                    have dg := dec_f hg2
                    go_wp2_with fail
                    go_ret
                    exact ⟨ret_int HS.out, hB.out⟩
                · have d2 := dec_f h2
                  have hT : oftenS t.kind lo hi x = 1 := by unfold oftenS maxT; rw [if_pos ⟨H7.out, hx0⟩]; unfold cut1001; (repeat' split) <;> omega
                  rw [hT, Int.mul_one, cut1001_no (by omega)] at HS
                  clear hT
                  have hg : 1 + x ≤ 1001 := by omega
                  have dg := dec_t hg
                  go_wp2_with fail
                  go_ret
                  exact ⟨ret_int HS.out, hB.out⟩
              · have d1 := dec_f h1
                by_cases h2 : 1 ≤ hi
                · have d2 := dec_t h2
                  by_cases hm : hi ≤ 1001
                  · have hT : oftenS t.kind lo hi x = hi := by unfold oftenS maxT; rw [if_pos ⟨H7.out, hx0⟩]; unfold cut1001; (repeat' split) <;> omega
                    rw [hT] at HS
                    clear hT
                    have hmb := mul_bounds (x := x) (T := hi) hd0 (by omega) (by omega) (by omega)
                    have e1 : wrap64 (x * hi) = x * hi := wrap_same (by unfold I64; omega)
                    have e2 : wrap64 (1 + x * hi) = 1 + x * hi := wrap_same (by unfold I64; omega)
                    have dm := dec_t hm
                    by_cases hg : 1001 < 1 + x * hi
                    · rw [cut1001_yes hg] at HS
                      have hg2 : ¬ 1 + x * hi ≤ 1001 := by omega
                      have dg := dec_f hg2
                      go_wp2_with fail
                      go_ret
                      exact ⟨ret_int HS.out, hB.out⟩
                    · rw [cut1001_no hg] at HS
                      have hg2 : 1 + x * hi ≤ 1001 := by omega
                      have dg := dec_t hg2
                      go_wp2_with fail
                      go_ret
                      exact ⟨ret_int HS.out, hB.out⟩
                  · have hT : oftenS t.kind lo hi x = 1001 := by unfold oftenS maxT; rw [if_pos ⟨H7.out, hx0⟩]; unfold cut1001; (repeat' split) <;> omega
                    rw [hT] at HS
                    clear hT
                    have hmb := mul_bounds (x := x) (T := 1001) hd0 (by omega) (by omega) (by omega)
                    have e1 : wrap64 (x * 1001) = x * 1001 := wrap_same (by unfold I64; omega)
                    have e2 : wrap64 (1 + x * 1001) = 1 + x * 1001 := wrap_same (by unfold I64; omega)
                    have dm := dec_f hm
                    rw [cut1001_yes (by omega)] at HS
                    have hg2 : ¬ 1 + x * 1001 ≤ 1001 := by omega
                    have dg := dec_f hg2
                    go_wp2_with fail
                    go_ret
                    exact ⟨ret_int HS.out, hB.out⟩
                · have d2 := dec_f h2
                  have hT : oftenS t.kind lo hi x = 1 := by unfold oftenS maxT; rw [if_pos ⟨H7.out, hx0⟩]; unfold cut1001; (repeat' split) <;> omega
                  rw [hT, Int.mul_one, cut1001_no (by omega)] at HS
                  clear hT
                  have hg : 1 + x ≤ 1001 := by omega
                  have dg := dec_t hg
                  go_wp2_with fail
                  go_ret
                  exact ⟨ret_int HS.out, hB.out⟩
            · obtain rfl : x = 0 := by omega
              have hT : oftenS t.kind lo hi 0 = 1 := by unfold oftenS; rw [if_neg (fun q => absurd q.2 (by omega))]
              rw [hT] at HS
              clear hT
              go_wp2_with fail
              go_ret
              exact ⟨ret_int HS.out, hB.out⟩
          · have d7 := (int_ne h7).1
            have hT : oftenS t.kind lo hi x = 1 := by unfold oftenS; rw [if_neg (fun q => h7 q.1)]
            rw [hT, Int.mul_one, cut1001_no (by omega)] at HS
            clear hT h7
            have hg : 1 + x ≤ 1001 := by omega
            have dg := dec_t hg
            go_wp2_with fail
            go_ret
            exact ⟨ret_int HS.out, hB.out⟩

set_option maxRecDepth 100000 in
set_option maxHeartbeats 2000000 in
theorem treeSize (k : Nat) (t : Tr) (w : World) (h : Tr.In w k t) :
    Calls Tryz.prog 49 #[.agg t.cs.toArray] w fun e w' => e = .returned (.int .i64 (sizeF k 1 t)) ∧ Below w.heap.size w w' := by
  have HI := Lib.hid h
  clear h
  have hA : At (w.alloc (Obj.cells t.cs.toArray 27)) w.heap.size 27 t.cs.toArray := At.new _ _ _
  have hB : Below w.heap.size w (w.alloc (Obj.cells t.cs.toArray 27)) := (Below.refl _ _).alloc (Nat.le_refl _) _
  go_enter Tryz.func49, Tryz.ntmps49
  go_wp2_with (first | (refine wpList_load_row rfl 27 _ rfl w.heap.size rfl 27 t.cs.toArray (0, 0) _ hA Tryz.underlying27 rfl (by kernel_rfl) ?_) | fail)
  refine (treeSizeFrom k t 1 _ (by omega) (by omega) (HI.out.next hB)).mono ?_
  rintro e w1 ⟨rfl, hb1⟩
  have HB := Lib.hid (below_step hB hb1 rfl rfl rfl rfl)
  clear hb1 hA hB
  go_wp2_with fail
  go_ret
  exact ⟨rfl, HB.out⟩

set_option maxRecDepth 100000 in
set_option maxHeartbeats 2000000 in
theorem treeFormed (k : Nat) (t : Tr) (w : World) (h : Tr.In w k t) :
    Calls Tryz.prog 22 #[.agg t.cs.toArray] w fun e w' => e = .returned (.bool (isFormed k t)) ∧ Below w.heap.size w w' := by
  have HI := Lib.hid h
  clear h
  have hA : At (w.alloc (Obj.cells t.cs.toArray 27)) w.heap.size 27 t.cs.toArray := At.new _ _ _
  have hB : Below w.heap.size w (w.alloc (Obj.cells t.cs.toArray 27)) := (Below.refl _ _).alloc (Nat.le_refl _) _
  have ht := sizeF_top k t
  obtain ⟨s, hs⟩ : ∃ s : Int, sizeF k 1 t = s := ⟨_, rfl⟩
  obtain ⟨f, hf⟩ : ∃ f : Bool, formedS k t = f := ⟨_, rfl⟩
  have HR : Hid (isFormed k t = (decide (s ≤ 1000) && f)) := by unfold isFormed; rw [← ht, hs, hf]; exact rfl
  have HS := Lib.hid hs
  have HF := Lib.hid hf
  clear hs hf ht
  go_enter Tryz.func22, Tryz.ntmps22
  go_wp2_with (first | (refine wpList_load_row rfl 27 _ rfl w.heap.size rfl 27 t.cs.toArray (0, 0) _ hA Tryz.underlying27 rfl (by kernel_rfl) ?_) | fail)
  refine (treeSize k t _ (HI.out.next hB)).mono ?_
  rintro e w1 ⟨rfl, hb1⟩
  rw [HS.out]
  have hA := hA.step hb1 rfl
  have hB := below_step hB hb1 rfl rfl rfl rfl
  clear hb1
  by_cases h1 : s ≤ 1000
  · have d1 := dec_t h1
    go_wp2_with (first | (refine wpList_load_row_want (by rfl) 27 _ rfl w.heap.size rfl 27 t.cs.toArray (0, 0) _ hA Tryz.underlying27 rfl (by kernel_rfl) ?_) | fail)
    refine (treeAllFormed k t _ (HI.out.next hB)).mono ?_
    rintro e w2 ⟨rfl, hb2⟩
    rw [HF.out]
    have HB := Lib.hid (below_step hB hb2 rfl rfl rfl rfl)
    have HR2 : Hid (isFormed k t = f) := by rw [HR.out, d1, Bool.true_and]; exact rfl
    clear hb2 hA hB
    cases f
    · go_wp2_with fail
      go_ret
      exact ⟨ret_bool HR2.out.symm, HB.out⟩
    · go_wp2_with fail
      go_ret
      exact ⟨ret_bool HR2.out.symm, HB.out⟩
  · have d1 := dec_f h1
    have HR2 : Hid (isFormed k t = false) := by rw [HR.out, d1, Bool.false_and]; exact rfl
    go_wp2_with fail
    go_ret
    exact ⟨ret_bool HR2.out.symm, hB⟩

end Go.Proofs.YtcghclikkeajfaaGreat
