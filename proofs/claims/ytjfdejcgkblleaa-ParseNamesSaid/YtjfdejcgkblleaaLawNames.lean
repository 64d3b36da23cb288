/- bolterlaw05.ParseNames: the law's walk. -/
import Derived.Test.YtjfdejcgkblleaaNamesAid
namespace Go.Proofs.Ytjfdejcgkblleaa
open Go.RowKit
set_option linter.unusedSimpArgs false
set_option linter.unusedVariables false

def boxN (w : World) (t : Tr) : World := w.alloc (.cells t.cs.toArray 28)
set_option maxRecDepth 100000 in
set_option maxHeartbeats 16000000 in
theorem lawNamesMany (k : Nat) (t : Tr) (u : ByteArray) (w : World) (h : Tr.Ins w k t) (hf : ¬ nodesS k 60 t ≤ 2000) :
    Calls Try.prog 4 #[.agg t.cs.toArray, .string u] w fun e w' => e = .returned (.bool true) ∧ Below w.heap.size w w' := by
  have hA0 : At (w.alloc (.cells t.cs.toArray 28)) w.heap.size 28 t.cs.toArray := At.new _ _ _
  obtain ⟨w1, hw1⟩ : ∃ w1, w1 = w.alloc (.cells t.cs.toArray 28) := ⟨_, rfl⟩
  have hb1 : Below w.heap.size w w1 := by rw [hw1]; exact (Below.refl _ _).alloc (Nat.le_refl _) _
  have HA1 : Hid (At w1 w.heap.size 28 t.cs.toArray) := Lib.hid (by rw [hw1]; exact hA0)
  have HB1 := Lib.hid hb1
  have HI1 := Lib.hid (h.next hb1)
  have HW1 := Lib.hid hw1
  clear hA0 hb1 hw1 h
  have hd : decide (nodesS k 60 t ≤ 2000) = false := decide_eq_false hf
  clear hf
  go_enter Try.func4, Try.ntmps4
  go_wp2_with fail
  rw [← HW1.out]
  refine (lawAwake5 w1).mono ?_
  rintro e w2 ⟨rfl, hb⟩
  have HA2 := Lib.hid (At.below HA1.out hb HA1.out.lt)
  have HB2 := Lib.hid (HB1.out.trans (hb.mono HB1.out.size))
  have HI2 := Lib.hid (HI1.out.next hb)
  clear hb
  go_wp2_with (first | ((with_reducible show wpList _ _ _ ({ dst := _, op := .load 28 _, type := _, pos := _, after := _, guard := _ } :: _) _ _); refine wpList_load_row_want (by rfl) 28 _ rfl w.heap.size rfl 28 t.cs.toArray (0, 0) _ HA2.out Try.underlying28 rfl (by kernel_rfl) ?_) | fail)
  refine (lawFew k 60 t w2 (by omega) (by omega) HI2.out.1).mono ?_
  rintro e w3 ⟨rfl, hb⟩
  have HA3 := Lib.hid (At.below HA2.out hb HA2.out.lt)
  have HB3 := Lib.hid (HB2.out.trans (hb.mono HB2.out.size))
  have HI3 := Lib.hid (HI2.out.next hb)
  clear hb
  rw [hd]
  go_wp2_with fail
  refine (lawAwake5 w3).mono ?_
  rintro e w9 ⟨rfl, hb⟩
  have HB9 := Lib.hid (HB3.out.trans (hb.mono HB3.out.size))
  clear hb
  go_wp2_with fail
  go_ret
  exact ⟨rfl, HB9.out⟩

set_option maxRecDepth 100000 in
set_option maxHeartbeats 16000000 in
theorem lawNamesLong (k : Nat) (t : Tr) (u : ByteArray) (w : World) (h : Tr.Ins w k t) (hf : nodesS k 60 t ≤ 2000) (hl : 100 < u.size) :
    Calls Try.prog 4 #[.agg t.cs.toArray, .string u] w fun e w' => e = .returned (.bool true) ∧ Below w.heap.size w w' := by
  have hA0 : At (w.alloc (.cells t.cs.toArray 28)) w.heap.size 28 t.cs.toArray := At.new _ _ _
  obtain ⟨w1, hw1⟩ : ∃ w1, w1 = w.alloc (.cells t.cs.toArray 28) := ⟨_, rfl⟩
  have hb1 : Below w.heap.size w w1 := by rw [hw1]; exact (Below.refl _ _).alloc (Nat.le_refl _) _
  have HA1 : Hid (At w1 w.heap.size 28 t.cs.toArray) := Lib.hid (by rw [hw1]; exact hA0)
  have HB1 := Lib.hid hb1
  have HI1 := Lib.hid (h.next hb1)
  have HW1 := Lib.hid hw1
  clear hA0 hb1 hw1 h
  have hd : decide (nodesS k 60 t ≤ 2000) = true := decide_eq_true hf
  have hl2 : (100 : Int) < (u.size : Int) := by omega
  have hdl : decide ((100 : Int) < (u.size : Int)) = true := decide_eq_true hl2
  clear hf
  go_enter Try.func4, Try.ntmps4
  go_wp2_with fail
  rw [← HW1.out]
  refine (lawAwake5 w1).mono ?_
  rintro e w2 ⟨rfl, hb⟩
  have HA2 := Lib.hid (At.below HA1.out hb HA1.out.lt)
  have HB2 := Lib.hid (HB1.out.trans (hb.mono HB1.out.size))
  have HI2 := Lib.hid (HI1.out.next hb)
  clear hb
  go_wp2_with (first | ((with_reducible show wpList _ _ _ ({ dst := _, op := .load 28 _, type := _, pos := _, after := _, guard := _ } :: _) _ _); refine wpList_load_row_want (by rfl) 28 _ rfl w.heap.size rfl 28 t.cs.toArray (0, 0) _ HA2.out Try.underlying28 rfl (by kernel_rfl) ?_) | fail)
  refine (lawFew k 60 t w2 (by omega) (by omega) HI2.out.1).mono ?_
  rintro e w3 ⟨rfl, hb⟩
  have HA3 := Lib.hid (At.below HA2.out hb HA2.out.lt)
  have HB3 := Lib.hid (HB2.out.trans (hb.mono HB2.out.size))
  have HI3 := Lib.hid (HI2.out.next hb)
  clear hb
  rw [hd]
  go_wp2_with fail
  refine (lawAwake5 w3).mono ?_
  rintro e w9 ⟨rfl, hb⟩
  have HB9 := Lib.hid (HB3.out.trans (hb.mono HB3.out.size))
  clear hb
  go_wp2_with fail
  go_ret
  exact ⟨rfl, HB9.out⟩

set_option maxRecDepth 100000 in
set_option maxHeartbeats 16000000 in
theorem lawNamesNot (k : Nat) (t : Tr) (u : ByteArray) (w : World) (h : Tr.Ins w k t) (hf : nodesS k 60 t ≤ 2000) (hl : ¬ 100 < u.size) (hn : isFormed k t = false) :
    Calls Try.prog 4 #[.agg t.cs.toArray, .string u] w fun e w' => e = .returned (.bool true) ∧ Below w.heap.size w w' := by
  have hA0 : At (w.alloc (.cells t.cs.toArray 28)) w.heap.size 28 t.cs.toArray := At.new _ _ _
  obtain ⟨w1, hw1⟩ : ∃ w1, w1 = w.alloc (.cells t.cs.toArray 28) := ⟨_, rfl⟩
  have hb1 : Below w.heap.size w w1 := by rw [hw1]; exact (Below.refl _ _).alloc (Nat.le_refl _) _
  have HA1 : Hid (At w1 w.heap.size 28 t.cs.toArray) := Lib.hid (by rw [hw1]; exact hA0)
  have HB1 := Lib.hid hb1
  have HI1 := Lib.hid (h.next hb1)
  have HW1 := Lib.hid hw1
  clear hA0 hb1 hw1 h
  have hd : decide (nodesS k 60 t ≤ 2000) = true := decide_eq_true hf
  have hl2 : ¬ (100 : Int) < (u.size : Int) := by omega
  have hdl : decide ((100 : Int) < (u.size : Int)) = false := decide_eq_false hl2
  have HN := Lib.hid hn
  clear hf hn
  go_enter Try.func4, Try.ntmps4
  go_wp2_with fail
  rw [← HW1.out]
  refine (lawAwake5 w1).mono ?_
  rintro e w2 ⟨rfl, hb⟩
  have HA2 := Lib.hid (At.below HA1.out hb HA1.out.lt)
  have HB2 := Lib.hid (HB1.out.trans (hb.mono HB1.out.size))
  have HI2 := Lib.hid (HI1.out.next hb)
  clear hb
  go_wp2_with (first | ((with_reducible show wpList _ _ _ ({ dst := _, op := .load 28 _, type := _, pos := _, after := _, guard := _ } :: _) _ _); refine wpList_load_row_want (by rfl) 28 _ rfl w.heap.size rfl 28 t.cs.toArray (0, 0) _ HA2.out Try.underlying28 rfl (by kernel_rfl) ?_) | fail)
  refine (lawFew k 60 t w2 (by omega) (by omega) HI2.out.1).mono ?_
  rintro e w3 ⟨rfl, hb⟩
  have HA3 := Lib.hid (At.below HA2.out hb HA2.out.lt)
  have HB3 := Lib.hid (HB2.out.trans (hb.mono HB2.out.size))
  have HI3 := Lib.hid (HI2.out.next hb)
  clear hb
  rw [hd]
  go_wp2_with (first | ((with_reducible show wpList _ _ _ ({ dst := _, op := .load 28 _, type := _, pos := _, after := _, guard := _ } :: _) _ _); refine wpList_load_row_want (by rfl) 28 _ rfl w.heap.size rfl 28 t.cs.toArray (0, 0) _ HA3.out Try.underlying28 rfl (by kernel_rfl) ?_) | fail)
  refine (refFormed k t w3 HI3.out.1).mono ?_
  rintro e w4 ⟨rfl, hb⟩
  have HA4 := Lib.hid (At.below HA3.out hb HA3.out.lt)
  have HB4 := Lib.hid (HB3.out.trans (hb.mono HB3.out.size))
  have HI4 := Lib.hid (HI3.out.next hb)
  clear hb
  rw [HN.out]
  go_wp2_with fail
  refine (lawAwake5 w4).mono ?_
  rintro e w9 ⟨rfl, hb⟩
  have HB9 := Lib.hid (HB4.out.trans (hb.mono HB4.out.size))
  clear hb
  go_wp2_with fail
  go_ret
  exact ⟨rfl, HB9.out⟩

set_option maxRecDepth 100000 in
set_option maxHeartbeats 16000000 in
theorem lawNamesOdd (k : Nat) (t : Tr) (u : ByteArray) (w : World) (h : Tr.Ins w k t) (hf : nodesS k 60 t ≤ 2000) (hl : ¬ 100 < u.size) (hn : isFormed k t = true) (hu : namedS u = false) :
    Calls Try.prog 4 #[.agg t.cs.toArray, .string u] w fun e w' => e = .returned (.bool true) ∧ Below w.heap.size w w' := by
  have hA0 : At (w.alloc (.cells t.cs.toArray 28)) w.heap.size 28 t.cs.toArray := At.new _ _ _
  obtain ⟨w1, hw1⟩ : ∃ w1, w1 = w.alloc (.cells t.cs.toArray 28) := ⟨_, rfl⟩
  have hb1 : Below w.heap.size w w1 := by rw [hw1]; exact (Below.refl _ _).alloc (Nat.le_refl _) _
  have HA1 : Hid (At w1 w.heap.size 28 t.cs.toArray) := Lib.hid (by rw [hw1]; exact hA0)
  have HB1 := Lib.hid hb1
  have HI1 := Lib.hid (h.next hb1)
  have HW1 := Lib.hid hw1
  clear hA0 hb1 hw1 h
  have hd : decide (nodesS k 60 t ≤ 2000) = true := decide_eq_true hf
  have hl2 : ¬ (100 : Int) < (u.size : Int) := by omega
  have hdl : decide ((100 : Int) < (u.size : Int)) = false := decide_eq_false hl2
  have HN := Lib.hid hn
  have HU := Lib.hid hu
  clear hf hn hu
  go_enter Try.func4, Try.ntmps4
  go_wp2_with fail
  rw [← HW1.out]
  refine (lawAwake5 w1).mono ?_
  rintro e w2 ⟨rfl, hb⟩
  have HA2 := Lib.hid (At.below HA1.out hb HA1.out.lt)
  have HB2 := Lib.hid (HB1.out.trans (hb.mono HB1.out.size))
  have HI2 := Lib.hid (HI1.out.next hb)
  clear hb
  go_wp2_with (first | ((with_reducible show wpList _ _ _ ({ dst := _, op := .load 28 _, type := _, pos := _, after := _, guard := _ } :: _) _ _); refine wpList_load_row_want (by rfl) 28 _ rfl w.heap.size rfl 28 t.cs.toArray (0, 0) _ HA2.out Try.underlying28 rfl (by kernel_rfl) ?_) | fail)
  refine (lawFew k 60 t w2 (by omega) (by omega) HI2.out.1).mono ?_
  rintro e w3 ⟨rfl, hb⟩
  have HA3 := Lib.hid (At.below HA2.out hb HA2.out.lt)
  have HB3 := Lib.hid (HB2.out.trans (hb.mono HB2.out.size))
  have HI3 := Lib.hid (HI2.out.next hb)
  clear hb
  rw [hd]
  go_wp2_with (first | ((with_reducible show wpList _ _ _ ({ dst := _, op := .load 28 _, type := _, pos := _, after := _, guard := _ } :: _) _ _); refine wpList_load_row_want (by rfl) 28 _ rfl w.heap.size rfl 28 t.cs.toArray (0, 0) _ HA3.out Try.underlying28 rfl (by kernel_rfl) ?_) | fail)
  refine (refFormed k t w3 HI3.out.1).mono ?_
  rintro e w4 ⟨rfl, hb⟩
  have HA4 := Lib.hid (At.below HA3.out hb HA3.out.lt)
  have HB4 := Lib.hid (HB3.out.trans (hb.mono HB3.out.size))
  have HI4 := Lib.hid (HI3.out.next hb)
  clear hb
  rw [HN.out]
  go_wp2_with fail
  refine (refNamed u (by omega) w4).mono ?_
  rintro e w5 ⟨rfl, rfl⟩
  rw [HU.out]
  go_wp2_with fail
  refine (lawAwake5 w4).mono ?_
  rintro e w9 ⟨rfl, hb⟩
  have HB9 := Lib.hid (HB4.out.trans (hb.mono HB4.out.size))
  clear hb
  go_wp2_with fail
  go_ret
  exact ⟨rfl, HB9.out⟩

end Go.Proofs.Ytjfdejcgkblleaa
