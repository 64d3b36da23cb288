/- bolterref09.Right: may a node be put behind so many? -/
import Derived.Test.YtoicbahkoejhjaaNodeEq
import Derived.Test.YtoicbahkoejhjaaRow
import Derived.StillTailTactics
import Derived.Deep.QuietTactic
import Derived.BigQuiet
namespace Go.Proofs.Ytoicbahkoejhjaa
open Go.RowKit
set_option linter.unusedSimpArgs false
set_option linter.unusedVariables false

def aIn (a : Int) (n : Int) : Bool := decide (0 ≤ a) && decide (a < n)
def noSt : St := ⟨0, 0, 0, 0⟩
def Nd.bare (x : Nd) : Nd := ⟨x.kind, noSt, 0, 0, false⟩
def Nd.right (x : Nd) (n : Nat) : Bool :=
  if x.kind = 0 ∨ x.kind = 1 then x.eqb x.bare
  else if x.kind = 2 then x.eqb ⟨x.kind, x.set, 0, 0, false⟩
  else if x.kind = 3 ∨ x.kind = 4 ∨ x.kind = 5 then x.eqb ⟨x.kind, noSt, x.a, x.b, false⟩ && aIn x.a n && aIn x.b n
  else if x.kind = 6 ∨ x.kind = 7 then x.eqb ⟨x.kind, noSt, x.a, 0, false⟩ && aIn x.a n
  else if x.kind = 8 then x.eqb ⟨x.kind, noSt, x.a, 0, x.neg⟩ && aIn x.a 4
  else false
/-- A node's own variable, and behind it the one with its kind alone. -/
def twoN (w : World) (x z : Nd) : World := (w.alloc (.cells x.cs.toArray 34)).alloc (.cells z.cs.toArray 34)
theorem twoN_x (w : World) (x z : Nd) : At (twoN w x z) w.heap.size 34 x.cs.toArray := (At.new w 34 x.cs.toArray).alloc _
theorem twoN_z (w : World) (x z : Nd) : At (twoN w x z) (w.heap.size + 1) 34 z.cs.toArray := by
  have h := At.new (w.alloc (.cells x.cs.toArray 34)) 34 z.cs.toArray
  rw [show (w.alloc (.cells x.cs.toArray 34)).heap.size = w.heap.size + 1 by simp] at h
  exact h
theorem twoN_next (w : World) (x z : Nd) : Below w.heap.size w (twoN w x z) := ((Below.refl _ _).alloc (Nat.le_refl _) _).alloc (by simp) _

theorem ne_succ (m : Nat) : m ≠ m + 1 := by omega
theorem below_drewN' {B : Nat} {w w1 : World} (h : Below B w w1) (q : Nat) : Below B w (w1.drewN q) := ⟨h.os, h.tape, h.output, h.size, h.block⟩

set_option maxRecDepth 100000 in
set_option maxHeartbeats 32000000 in
theorem refRight (x : Nd) (n : Nat) (w : World) :
    Calls Try.prog 11 #[.agg x.cs.toArray, .int .i64 n] w fun e w' => e = .returned (.bool (x.right n)) ∧ Below w.heap.size w w' := by
  have hc := (Nd.cells (At.new w 34 x.cs.toArray)).1
  go_enter Try.func11, Try.ntmps11
  go_wp2_with fail
  change Code.wp _ _ _ _ (twoN w x x.bare)
  have HA := Lib.hid (twoN_x w x x.bare)
  have HZ := Lib.hid (twoN_z w x x.bare)
  have HB := Lib.hid (twoN_next w x x.bare)
  obtain ⟨w1, hw1⟩ : ∃ w1, w1 = twoN w x x.bare := ⟨_, rfl⟩
  rw [← hw1] at HA HZ HB ⊢
  clear hw1 hc
  by_cases ha0 : (0 : Int) ≤ x.a
  · by_cases hb0 : (0 : Int) ≤ x.b
    · obtain ⟨c0, c1, c2, c3, c4, c5, c6, c7⟩ := Nd.cells HA.out
      by_cases hk0 : x.kind = 0
      · have HKd := Lib.hid hk0
        rw [hk0] at c0
        clear hk0
        have HV : Hid (x.right n = x.eqb x.bare) := Lib.hid (by unfold Nd.right; simp [HKd.out])
        obtain ⟨v, hv⟩ : ∃ v, x.eqb x.bare = v := ⟨_, rfl⟩
        have HVv := Lib.hid hv
        have hq := fun W => ndEq W x x.bare v hv
        clear hv
        go_quiet (fail)
        go_wp2_with (first
          | (with_reducible show wpList _ _ _ ({ dst := _, op := .load 34 (.tmp 2), type := _, pos := _, after := _, guard := _ } :: _) _ _
             refine wpList_load_row_want (by rfl) 34 _ rfl w.heap.size rfl 34 x.cs.toArray (0, 0) _ (HA.out.drewN nq) Try.underlying34 rfl (by kernel_rfl) ?_)
          | (with_reducible show wpList _ _ _ ({ dst := _, op := .load 34 (.tmp 5), type := _, pos := _, after := _, guard := _ } :: _) _ _
             refine wpList_load_row_want (by rfl) 34 _ rfl (w.heap.size + 1) rfl 34 x.bare.cs.toArray (0, 0) _ (HZ.out.drewN nq) Try.underlying34 rfl (by kernel_rfl) ?_)
          | fail)
        go_ret
        exact ⟨by rw [HV.out, HVv.out]; rfl, (below_drewN' HB.out _)⟩
      by_cases hk1 : x.kind = 1
      · have HKd := Lib.hid hk1
        rw [hk1] at c0
        clear hk1
        have HV : Hid (x.right n = x.eqb x.bare) := Lib.hid (by unfold Nd.right; simp [HKd.out])
        obtain ⟨v, hv⟩ : ∃ v, x.eqb x.bare = v := ⟨_, rfl⟩
        have HVv := Lib.hid hv
        have hq := fun W => ndEq W x x.bare v hv
        clear hv
        go_quiet (fail)
        go_wp2_with (first
          | (with_reducible show wpList _ _ _ ({ dst := _, op := .load 34 (.tmp 2), type := _, pos := _, after := _, guard := _ } :: _) _ _
             refine wpList_load_row_want (by rfl) 34 _ rfl w.heap.size rfl 34 x.cs.toArray (0, 0) _ (HA.out.drewN nq) Try.underlying34 rfl (by kernel_rfl) ?_)
          | (with_reducible show wpList _ _ _ ({ dst := _, op := .load 34 (.tmp 5), type := _, pos := _, after := _, guard := _ } :: _) _ _
             refine wpList_load_row_want (by rfl) 34 _ rfl (w.heap.size + 1) rfl 34 x.bare.cs.toArray (0, 0) _ (HZ.out.drewN nq) Try.underlying34 rfl (by kernel_rfl) ?_)
          | fail)
        go_ret
        exact ⟨by rw [HV.out, HVv.out]; rfl, (below_drewN' HB.out _)⟩
      by_cases hk2 : x.kind = 2
      · have HKd := Lib.hid hk2
        rw [hk2] at c0
        clear hk2
        have HV : Hid (x.right n = x.eqb (Nd.mk x.kind x.set 0 0 false)) := Lib.hid (by unfold Nd.right aIn; rw [decide_eq_true ha0, decide_eq_true hb0]; simp [HKd.out])
        obtain ⟨v, hv⟩ : ∃ v, x.eqb (Nd.mk x.kind x.set 0 0 false) = v := ⟨_, rfl⟩
        have HVv := Lib.hid hv
        have hq := fun W => ndEq W x (Nd.mk x.kind x.set 0 0 false) v hv
        clear hv
        go_quiet (fail)
        obtain ⟨z0, z1, z2, z3, z4, z5, z6, z7⟩ := Nd.cells HZ.out
        have f1 := HZ.out.free 1
        have f2 := HZ.out.free 2
        have f3 := HZ.out.free 3
        have f4 := HZ.out.free 4
        have f5 := HZ.out.free 5
        have f6 := HZ.out.free 6
        have f7 := HZ.out.free 7
        go_wp2_with (first
          | (with_reducible show wpList _ _ _ ({ dst := _, op := .load 34 (.tmp 2), type := _, pos := _, after := _, guard := _ } :: _) _ _
             refine wpList_load_row_want (by rfl) 34 _ rfl w.heap.size rfl 34 x.cs.toArray (0, 0) _ (At.other (At.other (At.other (At.other (HA.out.drewN nq) (ne_succ w.heap.size) _) (ne_succ w.heap.size) _) (ne_succ w.heap.size) _) (ne_succ w.heap.size) _) Try.underlying34 rfl (by kernel_rfl) ?_)
          | (with_reducible show wpList _ _ _ ({ dst := _, op := .load 34 (.tmp 5), type := _, pos := _, after := _, guard := _ } :: _) _ _
             refine wpList_load_row_want (by rfl) 34 _ rfl (w.heap.size + 1) rfl 34 (Nd.mk x.kind x.set 0 0 false).cs.toArray (0, 0) _ (At.set (At.set (At.set (At.set (HZ.out.drewN nq) 1 _) 2 _) 3 _) 4 _) Try.underlying34 rfl (by kernel_rfl) ?_)
          | fail)
        go_ret
        exact ⟨by rw [HV.out, HVv.out]; rfl, (Below.setCell (Below.setCell (Below.setCell (Below.setCell (below_drewN' HB.out _) (Nat.le_succ _) _) (Nat.le_succ _) _) (Nat.le_succ _) _) (Nat.le_succ _) _)⟩
      by_cases hk3 : x.kind = 3
      · have HKd := Lib.hid hk3
        rw [hk3] at c0
        clear hk3
        have HV : Hid (x.right n = (x.eqb (Nd.mk x.kind noSt x.a x.b false) && decide (x.a < (n : Int)) && decide (x.b < (n : Int)))) := Lib.hid (by unfold Nd.right aIn; rw [decide_eq_true ha0, decide_eq_true hb0]; simp [HKd.out])
        obtain ⟨v, hv⟩ : ∃ v, x.eqb (Nd.mk x.kind noSt x.a x.b false) = v := ⟨_, rfl⟩
        have HVv := Lib.hid hv
        have hq := fun W => ndEq W x (Nd.mk x.kind noSt x.a x.b false) v hv
        clear hv
        cases v
        · go_quiet (fail)
          obtain ⟨z0, z1, z2, z3, z4, z5, z6, z7⟩ := Nd.cells HZ.out
          have f1 := HZ.out.free 1
          have f2 := HZ.out.free 2
          have f3 := HZ.out.free 3
          have f4 := HZ.out.free 4
          have f5 := HZ.out.free 5
          have f6 := HZ.out.free 6
          have f7 := HZ.out.free 7
          go_wp2_with (first
            | (with_reducible show wpList _ _ _ ({ dst := _, op := .load 34 (.tmp 2), type := _, pos := _, after := _, guard := _ } :: _) _ _
               refine wpList_load_row_want (by rfl) 34 _ rfl w.heap.size rfl 34 x.cs.toArray (0, 0) _ (At.other (At.other (HA.out.drewN nq) (ne_succ w.heap.size) _) (ne_succ w.heap.size) _) Try.underlying34 rfl (by kernel_rfl) ?_)
            | (with_reducible show wpList _ _ _ ({ dst := _, op := .load 34 (.tmp 5), type := _, pos := _, after := _, guard := _ } :: _) _ _
               refine wpList_load_row_want (by rfl) 34 _ rfl (w.heap.size + 1) rfl 34 (Nd.mk x.kind noSt x.a x.b false).cs.toArray (0, 0) _ (At.set (At.set (HZ.out.drewN nq) 5 _) 6 _) Try.underlying34 rfl (by kernel_rfl) ?_)
            | fail)
          go_region
          go_wp2_with (first
            | (with_reducible show wpList _ _ _ ({ dst := _, op := .load 34 (.tmp 2), type := _, pos := _, after := _, guard := _ } :: _) _ _
               refine wpList_load_row_want (by rfl) 34 _ rfl w.heap.size rfl 34 x.cs.toArray (0, 0) _ (At.other (At.other (HA.out.drewN (nq + 1)) (ne_succ w.heap.size) _) (ne_succ w.heap.size) _) Try.underlying34 rfl (by kernel_rfl) ?_)
            | (with_reducible show wpList _ _ _ ({ dst := _, op := .load 34 (.tmp 5), type := _, pos := _, after := _, guard := _ } :: _) _ _
               refine wpList_load_row_want (by rfl) 34 _ rfl (w.heap.size + 1) rfl 34 (Nd.mk x.kind noSt x.a x.b false).cs.toArray (0, 0) _ (At.set (At.set (HZ.out.drewN (nq + 1)) 5 _) 6 _) Try.underlying34 rfl (by kernel_rfl) ?_)
            | fail)
          go_ret
          exact ⟨by rw [HV.out, HVv.out]; rfl, (Below.setCell (Below.setCell (below_drewN' HB.out _) (Nat.le_succ _) _) (Nat.le_succ _) _)⟩
        · by_cases hal : x.a < (n : Int)
          · have hal1 : decide (x.a < (n : Int)) = true := decide_eq_true hal
            rw [hal1] at HV
            clear hal1
            go_quiet (fail)
            obtain ⟨z0, z1, z2, z3, z4, z5, z6, z7⟩ := Nd.cells HZ.out
            have f1 := HZ.out.free 1
            have f2 := HZ.out.free 2
            have f3 := HZ.out.free 3
            have f4 := HZ.out.free 4
            have f5 := HZ.out.free 5
            have f6 := HZ.out.free 6
            have f7 := HZ.out.free 7
            go_wp2_with (first
              | (with_reducible show wpList _ _ _ ({ dst := _, op := .load 34 (.tmp 2), type := _, pos := _, after := _, guard := _ } :: _) _ _
                 refine wpList_load_row_want (by rfl) 34 _ rfl w.heap.size rfl 34 x.cs.toArray (0, 0) _ (At.other (At.other (HA.out.drewN nq) (ne_succ w.heap.size) _) (ne_succ w.heap.size) _) Try.underlying34 rfl (by kernel_rfl) ?_)
              | (with_reducible show wpList _ _ _ ({ dst := _, op := .load 34 (.tmp 5), type := _, pos := _, after := _, guard := _ } :: _) _ _
                 refine wpList_load_row_want (by rfl) 34 _ rfl (w.heap.size + 1) rfl 34 (Nd.mk x.kind noSt x.a x.b false).cs.toArray (0, 0) _ (At.set (At.set (HZ.out.drewN nq) 5 _) 6 _) Try.underlying34 rfl (by kernel_rfl) ?_)
              | fail)
            go_region
            go_wp2_with (first
              | (with_reducible show wpList _ _ _ ({ dst := _, op := .load 34 (.tmp 2), type := _, pos := _, after := _, guard := _ } :: _) _ _
                 refine wpList_load_row_want (by rfl) 34 _ rfl w.heap.size rfl 34 x.cs.toArray (0, 0) _ (At.other (At.other (HA.out.drewN (nq + 1)) (ne_succ w.heap.size) _) (ne_succ w.heap.size) _) Try.underlying34 rfl (by kernel_rfl) ?_)
              | (with_reducible show wpList _ _ _ ({ dst := _, op := .load 34 (.tmp 5), type := _, pos := _, after := _, guard := _ } :: _) _ _
                 refine wpList_load_row_want (by rfl) 34 _ rfl (w.heap.size + 1) rfl 34 (Nd.mk x.kind noSt x.a x.b false).cs.toArray (0, 0) _ (At.set (At.set (HZ.out.drewN (nq + 1)) 5 _) 6 _) Try.underlying34 rfl (by kernel_rfl) ?_)
              | fail)
            go_ret
            exact ⟨by rw [HV.out, HVv.out]; rfl, (Below.setCell (Below.setCell (below_drewN' HB.out _) (Nat.le_succ _) _) (Nat.le_succ _) _)⟩
          · have hal1 : decide (x.a < (n : Int)) = false := decide_eq_false hal
            rw [hal1] at HV
            go_quiet (fail)
            obtain ⟨z0, z1, z2, z3, z4, z5, z6, z7⟩ := Nd.cells HZ.out
            have f1 := HZ.out.free 1
            have f2 := HZ.out.free 2
            have f3 := HZ.out.free 3
            have f4 := HZ.out.free 4
            have f5 := HZ.out.free 5
            have f6 := HZ.out.free 6
            have f7 := HZ.out.free 7
            go_wp2_with (first
              | (with_reducible show wpList _ _ _ ({ dst := _, op := .load 34 (.tmp 2), type := _, pos := _, after := _, guard := _ } :: _) _ _
                 refine wpList_load_row_want (by rfl) 34 _ rfl w.heap.size rfl 34 x.cs.toArray (0, 0) _ (At.other (At.other (HA.out.drewN nq) (ne_succ w.heap.size) _) (ne_succ w.heap.size) _) Try.underlying34 rfl (by kernel_rfl) ?_)
              | (with_reducible show wpList _ _ _ ({ dst := _, op := .load 34 (.tmp 5), type := _, pos := _, after := _, guard := _ } :: _) _ _
                 refine wpList_load_row_want (by rfl) 34 _ rfl (w.heap.size + 1) rfl 34 (Nd.mk x.kind noSt x.a x.b false).cs.toArray (0, 0) _ (At.set (At.set (HZ.out.drewN nq) 5 _) 6 _) Try.underlying34 rfl (by kernel_rfl) ?_)
              | fail)
            go_region
            go_wp2_with (first
              | (with_reducible show wpList _ _ _ ({ dst := _, op := .load 34 (.tmp 2), type := _, pos := _, after := _, guard := _ } :: _) _ _
                 refine wpList_load_row_want (by rfl) 34 _ rfl w.heap.size rfl 34 x.cs.toArray (0, 0) _ (At.other (At.other (HA.out.drewN (nq + 1)) (ne_succ w.heap.size) _) (ne_succ w.heap.size) _) Try.underlying34 rfl (by kernel_rfl) ?_)
              | (with_reducible show wpList _ _ _ ({ dst := _, op := .load 34 (.tmp 5), type := _, pos := _, after := _, guard := _ } :: _) _ _
                 refine wpList_load_row_want (by rfl) 34 _ rfl (w.heap.size + 1) rfl 34 (Nd.mk x.kind noSt x.a x.b false).cs.toArray (0, 0) _ (At.set (At.set (HZ.out.drewN (nq + 1)) 5 _) 6 _) Try.underlying34 rfl (by kernel_rfl) ?_)
              | fail)
            go_ret
            exact ⟨by rw [HV.out, HVv.out]; rfl, (Below.setCell (Below.setCell (below_drewN' HB.out _) (Nat.le_succ _) _) (Nat.le_succ _) _)⟩
      by_cases hk4 : x.kind = 4
      · have HKd := Lib.hid hk4
        rw [hk4] at c0
        clear hk4
        have HV : Hid (x.right n = (x.eqb (Nd.mk x.kind noSt x.a x.b false) && decide (x.a < (n : Int)) && decide (x.b < (n : Int)))) := Lib.hid (by unfold Nd.right aIn; rw [decide_eq_true ha0, decide_eq_true hb0]; simp [HKd.out])
        obtain ⟨v, hv⟩ : ∃ v, x.eqb (Nd.mk x.kind noSt x.a x.b false) = v := ⟨_, rfl⟩
        have HVv := Lib.hid hv
        have hq := fun W => ndEq W x (Nd.mk x.kind noSt x.a x.b false) v hv
        clear hv
        cases v
        · go_quiet (fail)
          obtain ⟨z0, z1, z2, z3, z4, z5, z6, z7⟩ := Nd.cells HZ.out
          have f1 := HZ.out.free 1
          have f2 := HZ.out.free 2
          have f3 := HZ.out.free 3
          have f4 := HZ.out.free 4
          have f5 := HZ.out.free 5
          have f6 := HZ.out.free 6
          have f7 := HZ.out.free 7
          go_wp2_with (first
            | (with_reducible show wpList _ _ _ ({ dst := _, op := .load 34 (.tmp 2), type := _, pos := _, after := _, guard := _ } :: _) _ _
               refine wpList_load_row_want (by rfl) 34 _ rfl w.heap.size rfl 34 x.cs.toArray (0, 0) _ (At.other (At.other (HA.out.drewN nq) (ne_succ w.heap.size) _) (ne_succ w.heap.size) _) Try.underlying34 rfl (by kernel_rfl) ?_)
            | (with_reducible show wpList _ _ _ ({ dst := _, op := .load 34 (.tmp 5), type := _, pos := _, after := _, guard := _ } :: _) _ _
               refine wpList_load_row_want (by rfl) 34 _ rfl (w.heap.size + 1) rfl 34 (Nd.mk x.kind noSt x.a x.b false).cs.toArray (0, 0) _ (At.set (At.set (HZ.out.drewN nq) 5 _) 6 _) Try.underlying34 rfl (by kernel_rfl) ?_)
            | fail)
          go_region
          go_wp2_with (first
            | (with_reducible show wpList _ _ _ ({ dst := _, op := .load 34 (.tmp 2), type := _, pos := _, after := _, guard := _ } :: _) _ _
               refine wpList_load_row_want (by rfl) 34 _ rfl w.heap.size rfl 34 x.cs.toArray (0, 0) _ (At.other (At.other (HA.out.drewN (nq + 1)) (ne_succ w.heap.size) _) (ne_succ w.heap.size) _) Try.underlying34 rfl (by kernel_rfl) ?_)
            | (with_reducible show wpList _ _ _ ({ dst := _, op := .load 34 (.tmp 5), type := _, pos := _, after := _, guard := _ } :: _) _ _
               refine wpList_load_row_want (by rfl) 34 _ rfl (w.heap.size + 1) rfl 34 (Nd.mk x.kind noSt x.a x.b false).cs.toArray (0, 0) _ (At.set (At.set (HZ.out.drewN (nq + 1)) 5 _) 6 _) Try.underlying34 rfl (by kernel_rfl) ?_)
            | fail)
          go_ret
          exact ⟨by rw [HV.out, HVv.out]; rfl, (Below.setCell (Below.setCell (below_drewN' HB.out _) (Nat.le_succ _) _) (Nat.le_succ _) _)⟩
        · by_cases hal : x.a < (n : Int)
          · have hal1 : decide (x.a < (n : Int)) = true := decide_eq_true hal
            rw [hal1] at HV
            clear hal1
            go_quiet (fail)
            obtain ⟨z0, z1, z2, z3, z4, z5, z6, z7⟩ := Nd.cells HZ.out
            have f1 := HZ.out.free 1
            have f2 := HZ.out.free 2
            have f3 := HZ.out.free 3
            have f4 := HZ.out.free 4
            have f5 := HZ.out.free 5
            have f6 := HZ.out.free 6
            have f7 := HZ.out.free 7
            go_wp2_with (first
              | (with_reducible show wpList _ _ _ ({ dst := _, op := .load 34 (.tmp 2), type := _, pos := _, after := _, guard := _ } :: _) _ _
                 refine wpList_load_row_want (by rfl) 34 _ rfl w.heap.size rfl 34 x.cs.toArray (0, 0) _ (At.other (At.other (HA.out.drewN nq) (ne_succ w.heap.size) _) (ne_succ w.heap.size) _) Try.underlying34 rfl (by kernel_rfl) ?_)
              | (with_reducible show wpList _ _ _ ({ dst := _, op := .load 34 (.tmp 5), type := _, pos := _, after := _, guard := _ } :: _) _ _
                 refine wpList_load_row_want (by rfl) 34 _ rfl (w.heap.size + 1) rfl 34 (Nd.mk x.kind noSt x.a x.b false).cs.toArray (0, 0) _ (At.set (At.set (HZ.out.drewN nq) 5 _) 6 _) Try.underlying34 rfl (by kernel_rfl) ?_)
              | fail)
            go_region
            go_wp2_with (first
              | (with_reducible show wpList _ _ _ ({ dst := _, op := .load 34 (.tmp 2), type := _, pos := _, after := _, guard := _ } :: _) _ _
                 refine wpList_load_row_want (by rfl) 34 _ rfl w.heap.size rfl 34 x.cs.toArray (0, 0) _ (At.other (At.other (HA.out.drewN (nq + 1)) (ne_succ w.heap.size) _) (ne_succ w.heap.size) _) Try.underlying34 rfl (by kernel_rfl) ?_)
              | (with_reducible show wpList _ _ _ ({ dst := _, op := .load 34 (.tmp 5), type := _, pos := _, after := _, guard := _ } :: _) _ _
                 refine wpList_load_row_want (by rfl) 34 _ rfl (w.heap.size + 1) rfl 34 (Nd.mk x.kind noSt x.a x.b false).cs.toArray (0, 0) _ (At.set (At.set (HZ.out.drewN (nq + 1)) 5 _) 6 _) Try.underlying34 rfl (by kernel_rfl) ?_)
              | fail)
            go_ret
            exact ⟨by rw [HV.out, HVv.out]; rfl, (Below.setCell (Below.setCell (below_drewN' HB.out _) (Nat.le_succ _) _) (Nat.le_succ _) _)⟩
          · have hal1 : decide (x.a < (n : Int)) = false := decide_eq_false hal
            rw [hal1] at HV
            go_quiet (fail)
            obtain ⟨z0, z1, z2, z3, z4, z5, z6, z7⟩ := Nd.cells HZ.out
            have f1 := HZ.out.free 1
            have f2 := HZ.out.free 2
            have f3 := HZ.out.free 3
            have f4 := HZ.out.free 4
            have f5 := HZ.out.free 5
            have f6 := HZ.out.free 6
            have f7 := HZ.out.free 7
            go_wp2_with (first
              | (with_reducible show wpList _ _ _ ({ dst := _, op := .load 34 (.tmp 2), type := _, pos := _, after := _, guard := _ } :: _) _ _
                 refine wpList_load_row_want (by rfl) 34 _ rfl w.heap.size rfl 34 x.cs.toArray (0, 0) _ (At.other (At.other (HA.out.drewN nq) (ne_succ w.heap.size) _) (ne_succ w.heap.size) _) Try.underlying34 rfl (by kernel_rfl) ?_)
              | (with_reducible show wpList _ _ _ ({ dst := _, op := .load 34 (.tmp 5), type := _, pos := _, after := _, guard := _ } :: _) _ _
                 refine wpList_load_row_want (by rfl) 34 _ rfl (w.heap.size + 1) rfl 34 (Nd.mk x.kind noSt x.a x.b false).cs.toArray (0, 0) _ (At.set (At.set (HZ.out.drewN nq) 5 _) 6 _) Try.underlying34 rfl (by kernel_rfl) ?_)
              | fail)
            go_region
            go_wp2_with (first
              | (with_reducible show wpList _ _ _ ({ dst := _, op := .load 34 (.tmp 2), type := _, pos := _, after := _, guard := _ } :: _) _ _
                 refine wpList_load_row_want (by rfl) 34 _ rfl w.heap.size rfl 34 x.cs.toArray (0, 0) _ (At.other (At.other (HA.out.drewN (nq + 1)) (ne_succ w.heap.size) _) (ne_succ w.heap.size) _) Try.underlying34 rfl (by kernel_rfl) ?_)
              | (with_reducible show wpList _ _ _ ({ dst := _, op := .load 34 (.tmp 5), type := _, pos := _, after := _, guard := _ } :: _) _ _
                 refine wpList_load_row_want (by rfl) 34 _ rfl (w.heap.size + 1) rfl 34 (Nd.mk x.kind noSt x.a x.b false).cs.toArray (0, 0) _ (At.set (At.set (HZ.out.drewN (nq + 1)) 5 _) 6 _) Try.underlying34 rfl (by kernel_rfl) ?_)
              | fail)
            go_ret
            exact ⟨by rw [HV.out, HVv.out]; rfl, (Below.setCell (Below.setCell (below_drewN' HB.out _) (Nat.le_succ _) _) (Nat.le_succ _) _)⟩
      by_cases hk5 : x.kind = 5
      · have HKd := Lib.hid hk5
        rw [hk5] at c0
        clear hk5
        have HV : Hid (x.right n = (x.eqb (Nd.mk x.kind noSt x.a x.b false) && decide (x.a < (n : Int)) && decide (x.b < (n : Int)))) := Lib.hid (by unfold Nd.right aIn; rw [decide_eq_true ha0, decide_eq_true hb0]; simp [HKd.out])
        obtain ⟨v, hv⟩ : ∃ v, x.eqb (Nd.mk x.kind noSt x.a x.b false) = v := ⟨_, rfl⟩
        have HVv := Lib.hid hv
        have hq := fun W => ndEq W x (Nd.mk x.kind noSt x.a x.b false) v hv
        clear hv
        cases v
        · go_quiet (fail)
          obtain ⟨z0, z1, z2, z3, z4, z5, z6, z7⟩ := Nd.cells HZ.out
          have f1 := HZ.out.free 1
          have f2 := HZ.out.free 2
          have f3 := HZ.out.free 3
          have f4 := HZ.out.free 4
          have f5 := HZ.out.free 5
          have f6 := HZ.out.free 6
          have f7 := HZ.out.free 7
          go_wp2_with (first
            | (with_reducible show wpList _ _ _ ({ dst := _, op := .load 34 (.tmp 2), type := _, pos := _, after := _, guard := _ } :: _) _ _
               refine wpList_load_row_want (by rfl) 34 _ rfl w.heap.size rfl 34 x.cs.toArray (0, 0) _ (At.other (At.other (HA.out.drewN nq) (ne_succ w.heap.size) _) (ne_succ w.heap.size) _) Try.underlying34 rfl (by kernel_rfl) ?_)
            | (with_reducible show wpList _ _ _ ({ dst := _, op := .load 34 (.tmp 5), type := _, pos := _, after := _, guard := _ } :: _) _ _
               refine wpList_load_row_want (by rfl) 34 _ rfl (w.heap.size + 1) rfl 34 (Nd.mk x.kind noSt x.a x.b false).cs.toArray (0, 0) _ (At.set (At.set (HZ.out.drewN nq) 5 _) 6 _) Try.underlying34 rfl (by kernel_rfl) ?_)
            | fail)
          go_region
          go_wp2_with (first
            | (with_reducible show wpList _ _ _ ({ dst := _, op := .load 34 (.tmp 2), type := _, pos := _, after := _, guard := _ } :: _) _ _
               refine wpList_load_row_want (by rfl) 34 _ rfl w.heap.size rfl 34 x.cs.toArray (0, 0) _ (At.other (At.other (HA.out.drewN (nq + 1)) (ne_succ w.heap.size) _) (ne_succ w.heap.size) _) Try.underlying34 rfl (by kernel_rfl) ?_)
            | (with_reducible show wpList _ _ _ ({ dst := _, op := .load 34 (.tmp 5), type := _, pos := _, after := _, guard := _ } :: _) _ _
               refine wpList_load_row_want (by rfl) 34 _ rfl (w.heap.size + 1) rfl 34 (Nd.mk x.kind noSt x.a x.b false).cs.toArray (0, 0) _ (At.set (At.set (HZ.out.drewN (nq + 1)) 5 _) 6 _) Try.underlying34 rfl (by kernel_rfl) ?_)
            | fail)
          go_ret
          exact ⟨by rw [HV.out, HVv.out]; rfl, (Below.setCell (Below.setCell (below_drewN' HB.out _) (Nat.le_succ _) _) (Nat.le_succ _) _)⟩
        · by_cases hal : x.a < (n : Int)
          · have hal1 : decide (x.a < (n : Int)) = true := decide_eq_true hal
            rw [hal1] at HV
            clear hal1
            go_quiet (fail)
            obtain ⟨z0, z1, z2, z3, z4, z5, z6, z7⟩ := Nd.cells HZ.out
            have f1 := HZ.out.free 1
            have f2 := HZ.out.free 2
            have f3 := HZ.out.free 3
            have f4 := HZ.out.free 4
            have f5 := HZ.out.free 5
            have f6 := HZ.out.free 6
            have f7 := HZ.out.free 7
            go_wp2_with (first
              | (with_reducible show wpList _ _ _ ({ dst := _, op := .load 34 (.tmp 2), type := _, pos := _, after := _, guard := _ } :: _) _ _
                 refine wpList_load_row_want (by rfl) 34 _ rfl w.heap.size rfl 34 x.cs.toArray (0, 0) _ (At.other (At.other (HA.out.drewN nq) (ne_succ w.heap.size) _) (ne_succ w.heap.size) _) Try.underlying34 rfl (by kernel_rfl) ?_)
              | (with_reducible show wpList _ _ _ ({ dst := _, op := .load 34 (.tmp 5), type := _, pos := _, after := _, guard := _ } :: _) _ _
                 refine wpList_load_row_want (by rfl) 34 _ rfl (w.heap.size + 1) rfl 34 (Nd.mk x.kind noSt x.a x.b false).cs.toArray (0, 0) _ (At.set (At.set (HZ.out.drewN nq) 5 _) 6 _) Try.underlying34 rfl (by kernel_rfl) ?_)
              | fail)
            go_region
            go_wp2_with (first
              | (with_reducible show wpList _ _ _ ({ dst := _, op := .load 34 (.tmp 2), type := _, pos := _, after := _, guard := _ } :: _) _ _
                 refine wpList_load_row_want (by rfl) 34 _ rfl w.heap.size rfl 34 x.cs.toArray (0, 0) _ (At.other (At.other (HA.out.drewN (nq + 1)) (ne_succ w.heap.size) _) (ne_succ w.heap.size) _) Try.underlying34 rfl (by kernel_rfl) ?_)
              | (with_reducible show wpList _ _ _ ({ dst := _, op := .load 34 (.tmp 5), type := _, pos := _, after := _, guard := _ } :: _) _ _
                 refine wpList_load_row_want (by rfl) 34 _ rfl (w.heap.size + 1) rfl 34 (Nd.mk x.kind noSt x.a x.b false).cs.toArray (0, 0) _ (At.set (At.set (HZ.out.drewN (nq + 1)) 5 _) 6 _) Try.underlying34 rfl (by kernel_rfl) ?_)
              | fail)
            go_ret
            exact ⟨by rw [HV.out, HVv.out]; rfl, (Below.setCell (Below.setCell (below_drewN' HB.out _) (Nat.le_succ _) _) (Nat.le_succ _) _)⟩
          · have hal1 : decide (x.a < (n : Int)) = false := decide_eq_false hal
            rw [hal1] at HV
            go_quiet (fail)
            obtain ⟨z0, z1, z2, z3, z4, z5, z6, z7⟩ := Nd.cells HZ.out
            have f1 := HZ.out.free 1
            have f2 := HZ.out.free 2
            have f3 := HZ.out.free 3
            have f4 := HZ.out.free 4
            have f5 := HZ.out.free 5
            have f6 := HZ.out.free 6
            have f7 := HZ.out.free 7
            go_wp2_with (first
              | (with_reducible show wpList _ _ _ ({ dst := _, op := .load 34 (.tmp 2), type := _, pos := _, after := _, guard := _ } :: _) _ _
                 refine wpList_load_row_want (by rfl) 34 _ rfl w.heap.size rfl 34 x.cs.toArray (0, 0) _ (At.other (At.other (HA.out.drewN nq) (ne_succ w.heap.size) _) (ne_succ w.heap.size) _) Try.underlying34 rfl (by kernel_rfl) ?_)
              | (with_reducible show wpList _ _ _ ({ dst := _, op := .load 34 (.tmp 5), type := _, pos := _, after := _, guard := _ } :: _) _ _
                 refine wpList_load_row_want (by rfl) 34 _ rfl (w.heap.size + 1) rfl 34 (Nd.mk x.kind noSt x.a x.b false).cs.toArray (0, 0) _ (At.set (At.set (HZ.out.drewN nq) 5 _) 6 _) Try.underlying34 rfl (by kernel_rfl) ?_)
              | fail)
            go_region
            go_wp2_with (first
              | (with_reducible show wpList _ _ _ ({ dst := _, op := .load 34 (.tmp 2), type := _, pos := _, after := _, guard := _ } :: _) _ _
                 refine wpList_load_row_want (by rfl) 34 _ rfl w.heap.size rfl 34 x.cs.toArray (0, 0) _ (At.other (At.other (HA.out.drewN (nq + 1)) (ne_succ w.heap.size) _) (ne_succ w.heap.size) _) Try.underlying34 rfl (by kernel_rfl) ?_)
              | (with_reducible show wpList _ _ _ ({ dst := _, op := .load 34 (.tmp 5), type := _, pos := _, after := _, guard := _ } :: _) _ _
                 refine wpList_load_row_want (by rfl) 34 _ rfl (w.heap.size + 1) rfl 34 (Nd.mk x.kind noSt x.a x.b false).cs.toArray (0, 0) _ (At.set (At.set (HZ.out.drewN (nq + 1)) 5 _) 6 _) Try.underlying34 rfl (by kernel_rfl) ?_)
              | fail)
            go_ret
            exact ⟨by rw [HV.out, HVv.out]; rfl, (Below.setCell (Below.setCell (below_drewN' HB.out _) (Nat.le_succ _) _) (Nat.le_succ _) _)⟩
      by_cases hk6 : x.kind = 6
      · have HKd := Lib.hid hk6
        rw [hk6] at c0
        clear hk6
        have HV : Hid (x.right n = (x.eqb (Nd.mk x.kind noSt x.a 0 false) && decide (x.a < (n : Int)))) := Lib.hid (by unfold Nd.right aIn; rw [decide_eq_true ha0, decide_eq_true hb0]; simp [HKd.out])
        obtain ⟨v, hv⟩ : ∃ v, x.eqb (Nd.mk x.kind noSt x.a 0 false) = v := ⟨_, rfl⟩
        have HVv := Lib.hid hv
        have hq := fun W => ndEq W x (Nd.mk x.kind noSt x.a 0 false) v hv
        clear hv
        cases v
        · go_quiet (fail)
          obtain ⟨z0, z1, z2, z3, z4, z5, z6, z7⟩ := Nd.cells HZ.out
          have f1 := HZ.out.free 1
          have f2 := HZ.out.free 2
          have f3 := HZ.out.free 3
          have f4 := HZ.out.free 4
          have f5 := HZ.out.free 5
          have f6 := HZ.out.free 6
          have f7 := HZ.out.free 7
          go_wp2_with (first
            | (with_reducible show wpList _ _ _ ({ dst := _, op := .load 34 (.tmp 2), type := _, pos := _, after := _, guard := _ } :: _) _ _
               refine wpList_load_row_want (by rfl) 34 _ rfl w.heap.size rfl 34 x.cs.toArray (0, 0) _ (At.other (HA.out.drewN nq) (ne_succ w.heap.size) _) Try.underlying34 rfl (by kernel_rfl) ?_)
            | (with_reducible show wpList _ _ _ ({ dst := _, op := .load 34 (.tmp 5), type := _, pos := _, after := _, guard := _ } :: _) _ _
               refine wpList_load_row_want (by rfl) 34 _ rfl (w.heap.size + 1) rfl 34 (Nd.mk x.kind noSt x.a 0 false).cs.toArray (0, 0) _ (At.set (HZ.out.drewN nq) 5 _) Try.underlying34 rfl (by kernel_rfl) ?_)
            | fail)
          go_ret
          exact ⟨by rw [HV.out, HVv.out]; rfl, (Below.setCell (below_drewN' HB.out _) (Nat.le_succ _) _)⟩
        · go_quiet (fail)
          obtain ⟨z0, z1, z2, z3, z4, z5, z6, z7⟩ := Nd.cells HZ.out
          have f1 := HZ.out.free 1
          have f2 := HZ.out.free 2
          have f3 := HZ.out.free 3
          have f4 := HZ.out.free 4
          have f5 := HZ.out.free 5
          have f6 := HZ.out.free 6
          have f7 := HZ.out.free 7
          go_wp2_with (first
            | (with_reducible show wpList _ _ _ ({ dst := _, op := .load 34 (.tmp 2), type := _, pos := _, after := _, guard := _ } :: _) _ _
               refine wpList_load_row_want (by rfl) 34 _ rfl w.heap.size rfl 34 x.cs.toArray (0, 0) _ (At.other (HA.out.drewN nq) (ne_succ w.heap.size) _) Try.underlying34 rfl (by kernel_rfl) ?_)
            | (with_reducible show wpList _ _ _ ({ dst := _, op := .load 34 (.tmp 5), type := _, pos := _, after := _, guard := _ } :: _) _ _
               refine wpList_load_row_want (by rfl) 34 _ rfl (w.heap.size + 1) rfl 34 (Nd.mk x.kind noSt x.a 0 false).cs.toArray (0, 0) _ (At.set (HZ.out.drewN nq) 5 _) Try.underlying34 rfl (by kernel_rfl) ?_)
            | fail)
          go_ret
          exact ⟨by rw [HV.out, HVv.out]; rfl, (Below.setCell (below_drewN' HB.out _) (Nat.le_succ _) _)⟩
      by_cases hk7 : x.kind = 7
      · have HKd := Lib.hid hk7
        rw [hk7] at c0
        clear hk7
        have HV : Hid (x.right n = (x.eqb (Nd.mk x.kind noSt x.a 0 false) && decide (x.a < (n : Int)))) := Lib.hid (by unfold Nd.right aIn; rw [decide_eq_true ha0, decide_eq_true hb0]; simp [HKd.out])
        obtain ⟨v, hv⟩ : ∃ v, x.eqb (Nd.mk x.kind noSt x.a 0 false) = v := ⟨_, rfl⟩
        have HVv := Lib.hid hv
        have hq := fun W => ndEq W x (Nd.mk x.kind noSt x.a 0 false) v hv
        clear hv
        cases v
        · go_quiet (fail)
          obtain ⟨z0, z1, z2, z3, z4, z5, z6, z7⟩ := Nd.cells HZ.out
          have f1 := HZ.out.free 1
          have f2 := HZ.out.free 2
          have f3 := HZ.out.free 3
          have f4 := HZ.out.free 4
          have f5 := HZ.out.free 5
          have f6 := HZ.out.free 6
          have f7 := HZ.out.free 7
          go_wp2_with (first
            | (with_reducible show wpList _ _ _ ({ dst := _, op := .load 34 (.tmp 2), type := _, pos := _, after := _, guard := _ } :: _) _ _
               refine wpList_load_row_want (by rfl) 34 _ rfl w.heap.size rfl 34 x.cs.toArray (0, 0) _ (At.other (HA.out.drewN nq) (ne_succ w.heap.size) _) Try.underlying34 rfl (by kernel_rfl) ?_)
            | (with_reducible show wpList _ _ _ ({ dst := _, op := .load 34 (.tmp 5), type := _, pos := _, after := _, guard := _ } :: _) _ _
               refine wpList_load_row_want (by rfl) 34 _ rfl (w.heap.size + 1) rfl 34 (Nd.mk x.kind noSt x.a 0 false).cs.toArray (0, 0) _ (At.set (HZ.out.drewN nq) 5 _) Try.underlying34 rfl (by kernel_rfl) ?_)
            | fail)
          go_ret
          exact ⟨by rw [HV.out, HVv.out]; rfl, (Below.setCell (below_drewN' HB.out _) (Nat.le_succ _) _)⟩
        · go_quiet (fail)
          obtain ⟨z0, z1, z2, z3, z4, z5, z6, z7⟩ := Nd.cells HZ.out
          have f1 := HZ.out.free 1
          have f2 := HZ.out.free 2
          have f3 := HZ.out.free 3
          have f4 := HZ.out.free 4
          have f5 := HZ.out.free 5
          have f6 := HZ.out.free 6
          have f7 := HZ.out.free 7
          go_wp2_with (first
            | (with_reducible show wpList _ _ _ ({ dst := _, op := .load 34 (.tmp 2), type := _, pos := _, after := _, guard := _ } :: _) _ _
               refine wpList_load_row_want (by rfl) 34 _ rfl w.heap.size rfl 34 x.cs.toArray (0, 0) _ (At.other (HA.out.drewN nq) (ne_succ w.heap.size) _) Try.underlying34 rfl (by kernel_rfl) ?_)
            | (with_reducible show wpList _ _ _ ({ dst := _, op := .load 34 (.tmp 5), type := _, pos := _, after := _, guard := _ } :: _) _ _
               refine wpList_load_row_want (by rfl) 34 _ rfl (w.heap.size + 1) rfl 34 (Nd.mk x.kind noSt x.a 0 false).cs.toArray (0, 0) _ (At.set (HZ.out.drewN nq) 5 _) Try.underlying34 rfl (by kernel_rfl) ?_)
            | fail)
          go_ret
          exact ⟨by rw [HV.out, HVv.out]; rfl, (Below.setCell (below_drewN' HB.out _) (Nat.le_succ _) _)⟩
      by_cases hk8 : x.kind = 8
      · have HKd := Lib.hid hk8
        rw [hk8] at c0
        clear hk8
        have HV : Hid (x.right n = (x.eqb (Nd.mk x.kind noSt x.a 0 x.neg) && decide (x.a < 4))) := Lib.hid (by unfold Nd.right aIn; rw [decide_eq_true ha0, decide_eq_true hb0]; simp [HKd.out])
        obtain ⟨v, hv⟩ : ∃ v, x.eqb (Nd.mk x.kind noSt x.a 0 x.neg) = v := ⟨_, rfl⟩
        have HVv := Lib.hid hv
        have hq := fun W => ndEq W x (Nd.mk x.kind noSt x.a 0 x.neg) v hv
        clear hv
        cases v
        · go_quiet (fail)
          obtain ⟨z0, z1, z2, z3, z4, z5, z6, z7⟩ := Nd.cells HZ.out
          have f1 := HZ.out.free 1
          have f2 := HZ.out.free 2
          have f3 := HZ.out.free 3
          have f4 := HZ.out.free 4
          have f5 := HZ.out.free 5
          have f6 := HZ.out.free 6
          have f7 := HZ.out.free 7
          go_wp2_with (first
            | (with_reducible show wpList _ _ _ ({ dst := _, op := .load 34 (.tmp 2), type := _, pos := _, after := _, guard := _ } :: _) _ _
               refine wpList_load_row_want (by rfl) 34 _ rfl w.heap.size rfl 34 x.cs.toArray (0, 0) _ (At.other (At.other (HA.out.drewN nq) (ne_succ w.heap.size) _) (ne_succ w.heap.size) _) Try.underlying34 rfl (by kernel_rfl) ?_)
            | (with_reducible show wpList _ _ _ ({ dst := _, op := .load 34 (.tmp 5), type := _, pos := _, after := _, guard := _ } :: _) _ _
               refine wpList_load_row_want (by rfl) 34 _ rfl (w.heap.size + 1) rfl 34 (Nd.mk x.kind noSt x.a 0 x.neg).cs.toArray (0, 0) _ (At.set (At.set (HZ.out.drewN nq) 5 _) 7 _) Try.underlying34 rfl (by kernel_rfl) ?_)
            | fail)
          go_region
          go_wp2_with (first
            | (with_reducible show wpList _ _ _ ({ dst := _, op := .load 34 (.tmp 2), type := _, pos := _, after := _, guard := _ } :: _) _ _
               refine wpList_load_row_want (by rfl) 34 _ rfl w.heap.size rfl 34 x.cs.toArray (0, 0) _ (At.other (At.other (HA.out.drewN (nq + 1)) (ne_succ w.heap.size) _) (ne_succ w.heap.size) _) Try.underlying34 rfl (by kernel_rfl) ?_)
            | (with_reducible show wpList _ _ _ ({ dst := _, op := .load 34 (.tmp 5), type := _, pos := _, after := _, guard := _ } :: _) _ _
               refine wpList_load_row_want (by rfl) 34 _ rfl (w.heap.size + 1) rfl 34 (Nd.mk x.kind noSt x.a 0 x.neg).cs.toArray (0, 0) _ (At.set (At.set (HZ.out.drewN (nq + 1)) 5 _) 7 _) Try.underlying34 rfl (by kernel_rfl) ?_)
            | fail)
          go_ret
          exact ⟨by rw [HV.out, HVv.out]; rfl, (Below.setCell (Below.setCell (below_drewN' HB.out _) (Nat.le_succ _) _) (Nat.le_succ _) _)⟩
        · go_quiet (fail)
          obtain ⟨z0, z1, z2, z3, z4, z5, z6, z7⟩ := Nd.cells HZ.out
          have f1 := HZ.out.free 1
          have f2 := HZ.out.free 2
          have f3 := HZ.out.free 3
          have f4 := HZ.out.free 4
          have f5 := HZ.out.free 5
          have f6 := HZ.out.free 6
          have f7 := HZ.out.free 7
          go_wp2_with (first
            | (with_reducible show wpList _ _ _ ({ dst := _, op := .load 34 (.tmp 2), type := _, pos := _, after := _, guard := _ } :: _) _ _
               refine wpList_load_row_want (by rfl) 34 _ rfl w.heap.size rfl 34 x.cs.toArray (0, 0) _ (At.other (At.other (HA.out.drewN nq) (ne_succ w.heap.size) _) (ne_succ w.heap.size) _) Try.underlying34 rfl (by kernel_rfl) ?_)
            | (with_reducible show wpList _ _ _ ({ dst := _, op := .load 34 (.tmp 5), type := _, pos := _, after := _, guard := _ } :: _) _ _
               refine wpList_load_row_want (by rfl) 34 _ rfl (w.heap.size + 1) rfl 34 (Nd.mk x.kind noSt x.a 0 x.neg).cs.toArray (0, 0) _ (At.set (At.set (HZ.out.drewN nq) 5 _) 7 _) Try.underlying34 rfl (by kernel_rfl) ?_)
            | fail)
          go_region
          go_wp2_with (first
            | (with_reducible show wpList _ _ _ ({ dst := _, op := .load 34 (.tmp 2), type := _, pos := _, after := _, guard := _ } :: _) _ _
               refine wpList_load_row_want (by rfl) 34 _ rfl w.heap.size rfl 34 x.cs.toArray (0, 0) _ (At.other (At.other (HA.out.drewN (nq + 1)) (ne_succ w.heap.size) _) (ne_succ w.heap.size) _) Try.underlying34 rfl (by kernel_rfl) ?_)
            | (with_reducible show wpList _ _ _ ({ dst := _, op := .load 34 (.tmp 5), type := _, pos := _, after := _, guard := _ } :: _) _ _
               refine wpList_load_row_want (by rfl) 34 _ rfl (w.heap.size + 1) rfl 34 (Nd.mk x.kind noSt x.a 0 x.neg).cs.toArray (0, 0) _ (At.set (At.set (HZ.out.drewN (nq + 1)) 5 _) 7 _) Try.underlying34 rfl (by kernel_rfl) ?_)
            | fail)
          go_ret
          exact ⟨by rw [HV.out, HVv.out]; rfl, (Below.setCell (Below.setCell (below_drewN' HB.out _) (Nat.le_succ _) _) (Nat.le_succ _) _)⟩
      have hb0 := (int_ne hk0).1
      have h0 := Lib.hid hk0
      have hb1 := (int_ne hk1).1
      have h1 := Lib.hid hk1
      have hb2 := (int_ne hk2).1
      have h2 := Lib.hid hk2
      have hb3 := (int_ne hk3).1
      have h3 := Lib.hid hk3
      have hb4 := (int_ne hk4).1
      have h4 := Lib.hid hk4
      have hb5 := (int_ne hk5).1
      have h5 := Lib.hid hk5
      have hb6 := (int_ne hk6).1
      have h6 := Lib.hid hk6
      have hb7 := (int_ne hk7).1
      have h7 := Lib.hid hk7
      have hb8 := (int_ne hk8).1
      have h8 := Lib.hid hk8
      clear hk0 hk1 hk2 hk3 hk4 hk5 hk6 hk7 hk8
      have HV : Hid (x.right n = false) := Lib.hid (by unfold Nd.right; simp [h0.out, h1.out, h2.out, h3.out, h4.out, h5.out, h6.out, h7.out, h8.out])
      go_quiet (fail)
      go_wp2_with fail
      go_ret
      exact ⟨by rw [HV.out]; rfl, (below_drewN' HB.out _)⟩
    · have hb1 : decide ((0 : Int) ≤ x.b) = false := decide_eq_false hb0
      obtain ⟨c0, c1, c2, c3, c4, c5, c6, c7⟩ := Nd.cells HA.out
      by_cases hk0 : x.kind = 0
      · have HKd := Lib.hid hk0
        rw [hk0] at c0
        clear hk0
        have HV : Hid (x.right n = x.eqb x.bare) := Lib.hid (by unfold Nd.right; simp [HKd.out])
        obtain ⟨v, hv⟩ : ∃ v, x.eqb x.bare = v := ⟨_, rfl⟩
        have HVv := Lib.hid hv
        have hq := fun W => ndEq W x x.bare v hv
        clear hv
        go_quiet (fail)
        go_wp2_with (first
          | (with_reducible show wpList _ _ _ ({ dst := _, op := .load 34 (.tmp 2), type := _, pos := _, after := _, guard := _ } :: _) _ _
             refine wpList_load_row_want (by rfl) 34 _ rfl w.heap.size rfl 34 x.cs.toArray (0, 0) _ (HA.out.drewN nq) Try.underlying34 rfl (by kernel_rfl) ?_)
          | (with_reducible show wpList _ _ _ ({ dst := _, op := .load 34 (.tmp 5), type := _, pos := _, after := _, guard := _ } :: _) _ _
             refine wpList_load_row_want (by rfl) 34 _ rfl (w.heap.size + 1) rfl 34 x.bare.cs.toArray (0, 0) _ (HZ.out.drewN nq) Try.underlying34 rfl (by kernel_rfl) ?_)
          | fail)
        go_ret
        exact ⟨by rw [HV.out, HVv.out]; rfl, (below_drewN' HB.out _)⟩
      by_cases hk1 : x.kind = 1
      · have HKd := Lib.hid hk1
        rw [hk1] at c0
        clear hk1
        have HV : Hid (x.right n = x.eqb x.bare) := Lib.hid (by unfold Nd.right; simp [HKd.out])
        obtain ⟨v, hv⟩ : ∃ v, x.eqb x.bare = v := ⟨_, rfl⟩
        have HVv := Lib.hid hv
        have hq := fun W => ndEq W x x.bare v hv
        clear hv
        go_quiet (fail)
        go_wp2_with (first
          | (with_reducible show wpList _ _ _ ({ dst := _, op := .load 34 (.tmp 2), type := _, pos := _, after := _, guard := _ } :: _) _ _
             refine wpList_load_row_want (by rfl) 34 _ rfl w.heap.size rfl 34 x.cs.toArray (0, 0) _ (HA.out.drewN nq) Try.underlying34 rfl (by kernel_rfl) ?_)
          | (with_reducible show wpList _ _ _ ({ dst := _, op := .load 34 (.tmp 5), type := _, pos := _, after := _, guard := _ } :: _) _ _
             refine wpList_load_row_want (by rfl) 34 _ rfl (w.heap.size + 1) rfl 34 x.bare.cs.toArray (0, 0) _ (HZ.out.drewN nq) Try.underlying34 rfl (by kernel_rfl) ?_)
          | fail)
        go_ret
        exact ⟨by rw [HV.out, HVv.out]; rfl, (below_drewN' HB.out _)⟩
      by_cases hk2 : x.kind = 2
      · have HKd := Lib.hid hk2
        rw [hk2] at c0
        clear hk2
        have HV : Hid (x.right n = x.eqb (Nd.mk x.kind x.set 0 0 false)) := Lib.hid (by unfold Nd.right aIn; rw [decide_eq_true ha0, hb1]; simp [HKd.out])
        obtain ⟨v, hv⟩ : ∃ v, x.eqb (Nd.mk x.kind x.set 0 0 false) = v := ⟨_, rfl⟩
        have HVv := Lib.hid hv
        have hq := fun W => ndEq W x (Nd.mk x.kind x.set 0 0 false) v hv
        clear hv
        go_quiet (fail)
        obtain ⟨z0, z1, z2, z3, z4, z5, z6, z7⟩ := Nd.cells HZ.out
        have f1 := HZ.out.free 1
        have f2 := HZ.out.free 2
        have f3 := HZ.out.free 3
        have f4 := HZ.out.free 4
        have f5 := HZ.out.free 5
        have f6 := HZ.out.free 6
        have f7 := HZ.out.free 7
        go_wp2_with (first
          | (with_reducible show wpList _ _ _ ({ dst := _, op := .load 34 (.tmp 2), type := _, pos := _, after := _, guard := _ } :: _) _ _
             refine wpList_load_row_want (by rfl) 34 _ rfl w.heap.size rfl 34 x.cs.toArray (0, 0) _ (At.other (At.other (At.other (At.other (HA.out.drewN nq) (ne_succ w.heap.size) _) (ne_succ w.heap.size) _) (ne_succ w.heap.size) _) (ne_succ w.heap.size) _) Try.underlying34 rfl (by kernel_rfl) ?_)
          | (with_reducible show wpList _ _ _ ({ dst := _, op := .load 34 (.tmp 5), type := _, pos := _, after := _, guard := _ } :: _) _ _
             refine wpList_load_row_want (by rfl) 34 _ rfl (w.heap.size + 1) rfl 34 (Nd.mk x.kind x.set 0 0 false).cs.toArray (0, 0) _ (At.set (At.set (At.set (At.set (HZ.out.drewN nq) 1 _) 2 _) 3 _) 4 _) Try.underlying34 rfl (by kernel_rfl) ?_)
          | fail)
        go_ret
        exact ⟨by rw [HV.out, HVv.out]; rfl, (Below.setCell (Below.setCell (Below.setCell (Below.setCell (below_drewN' HB.out _) (Nat.le_succ _) _) (Nat.le_succ _) _) (Nat.le_succ _) _) (Nat.le_succ _) _)⟩
      by_cases hk3 : x.kind = 3
      · have HKd := Lib.hid hk3
        rw [hk3] at c0
        clear hk3
        have HV : Hid (x.right n = (x.eqb (Nd.mk x.kind noSt x.a x.b false) && decide (x.a < (n : Int)) && false)) := Lib.hid (by unfold Nd.right aIn; rw [decide_eq_true ha0, hb1]; simp [HKd.out])
        obtain ⟨v, hv⟩ : ∃ v, x.eqb (Nd.mk x.kind noSt x.a x.b false) = v := ⟨_, rfl⟩
        have HVv := Lib.hid hv
        have hq := fun W => ndEq W x (Nd.mk x.kind noSt x.a x.b false) v hv
        clear hv
        cases v
        · go_quiet (fail)
          obtain ⟨z0, z1, z2, z3, z4, z5, z6, z7⟩ := Nd.cells HZ.out
          have f1 := HZ.out.free 1
          have f2 := HZ.out.free 2
          have f3 := HZ.out.free 3
          have f4 := HZ.out.free 4
          have f5 := HZ.out.free 5
          have f6 := HZ.out.free 6
          have f7 := HZ.out.free 7
          go_wp2_with (first
            | (with_reducible show wpList _ _ _ ({ dst := _, op := .load 34 (.tmp 2), type := _, pos := _, after := _, guard := _ } :: _) _ _
               refine wpList_load_row_want (by rfl) 34 _ rfl w.heap.size rfl 34 x.cs.toArray (0, 0) _ (At.other (At.other (HA.out.drewN nq) (ne_succ w.heap.size) _) (ne_succ w.heap.size) _) Try.underlying34 rfl (by kernel_rfl) ?_)
            | (with_reducible show wpList _ _ _ ({ dst := _, op := .load 34 (.tmp 5), type := _, pos := _, after := _, guard := _ } :: _) _ _
               refine wpList_load_row_want (by rfl) 34 _ rfl (w.heap.size + 1) rfl 34 (Nd.mk x.kind noSt x.a x.b false).cs.toArray (0, 0) _ (At.set (At.set (HZ.out.drewN nq) 5 _) 6 _) Try.underlying34 rfl (by kernel_rfl) ?_)
            | fail)
          go_region
          go_wp2_with (first
            | (with_reducible show wpList _ _ _ ({ dst := _, op := .load 34 (.tmp 2), type := _, pos := _, after := _, guard := _ } :: _) _ _
               refine wpList_load_row_want (by rfl) 34 _ rfl w.heap.size rfl 34 x.cs.toArray (0, 0) _ (At.other (At.other (HA.out.drewN (nq + 1)) (ne_succ w.heap.size) _) (ne_succ w.heap.size) _) Try.underlying34 rfl (by kernel_rfl) ?_)
            | (with_reducible show wpList _ _ _ ({ dst := _, op := .load 34 (.tmp 5), type := _, pos := _, after := _, guard := _ } :: _) _ _
               refine wpList_load_row_want (by rfl) 34 _ rfl (w.heap.size + 1) rfl 34 (Nd.mk x.kind noSt x.a x.b false).cs.toArray (0, 0) _ (At.set (At.set (HZ.out.drewN (nq + 1)) 5 _) 6 _) Try.underlying34 rfl (by kernel_rfl) ?_)
            | fail)
          go_ret
          exact ⟨by rw [HV.out, HVv.out]; rfl, (Below.setCell (Below.setCell (below_drewN' HB.out _) (Nat.le_succ _) _) (Nat.le_succ _) _)⟩
        · by_cases hal : x.a < (n : Int)
          · have hal1 : decide (x.a < (n : Int)) = true := decide_eq_true hal
            rw [hal1] at HV
            clear hal1
            go_quiet (fail)
            obtain ⟨z0, z1, z2, z3, z4, z5, z6, z7⟩ := Nd.cells HZ.out
            have f1 := HZ.out.free 1
            have f2 := HZ.out.free 2
            have f3 := HZ.out.free 3
            have f4 := HZ.out.free 4
            have f5 := HZ.out.free 5
            have f6 := HZ.out.free 6
            have f7 := HZ.out.free 7
            go_wp2_with (first
              | (with_reducible show wpList _ _ _ ({ dst := _, op := .load 34 (.tmp 2), type := _, pos := _, after := _, guard := _ } :: _) _ _
                 refine wpList_load_row_want (by rfl) 34 _ rfl w.heap.size rfl 34 x.cs.toArray (0, 0) _ (At.other (At.other (HA.out.drewN nq) (ne_succ w.heap.size) _) (ne_succ w.heap.size) _) Try.underlying34 rfl (by kernel_rfl) ?_)
              | (with_reducible show wpList _ _ _ ({ dst := _, op := .load 34 (.tmp 5), type := _, pos := _, after := _, guard := _ } :: _) _ _
                 refine wpList_load_row_want (by rfl) 34 _ rfl (w.heap.size + 1) rfl 34 (Nd.mk x.kind noSt x.a x.b false).cs.toArray (0, 0) _ (At.set (At.set (HZ.out.drewN nq) 5 _) 6 _) Try.underlying34 rfl (by kernel_rfl) ?_)
              | fail)
            go_region
            go_wp2_with (first
              | (with_reducible show wpList _ _ _ ({ dst := _, op := .load 34 (.tmp 2), type := _, pos := _, after := _, guard := _ } :: _) _ _
                 refine wpList_load_row_want (by rfl) 34 _ rfl w.heap.size rfl 34 x.cs.toArray (0, 0) _ (At.other (At.other (HA.out.drewN (nq + 1)) (ne_succ w.heap.size) _) (ne_succ w.heap.size) _) Try.underlying34 rfl (by kernel_rfl) ?_)
              | (with_reducible show wpList _ _ _ ({ dst := _, op := .load 34 (.tmp 5), type := _, pos := _, after := _, guard := _ } :: _) _ _
                 refine wpList_load_row_want (by rfl) 34 _ rfl (w.heap.size + 1) rfl 34 (Nd.mk x.kind noSt x.a x.b false).cs.toArray (0, 0) _ (At.set (At.set (HZ.out.drewN (nq + 1)) 5 _) 6 _) Try.underlying34 rfl (by kernel_rfl) ?_)
              | fail)
            go_ret
            exact ⟨by rw [HV.out, HVv.out]; rfl, (Below.setCell (Below.setCell (below_drewN' HB.out _) (Nat.le_succ _) _) (Nat.le_succ _) _)⟩
          · have hal1 : decide (x.a < (n : Int)) = false := decide_eq_false hal
            rw [hal1] at HV
            go_quiet (fail)
            obtain ⟨z0, z1, z2, z3, z4, z5, z6, z7⟩ := Nd.cells HZ.out
            have f1 := HZ.out.free 1
            have f2 := HZ.out.free 2
            have f3 := HZ.out.free 3
            have f4 := HZ.out.free 4
            have f5 := HZ.out.free 5
            have f6 := HZ.out.free 6
            have f7 := HZ.out.free 7
            go_wp2_with (first
              | (with_reducible show wpList _ _ _ ({ dst := _, op := .load 34 (.tmp 2), type := _, pos := _, after := _, guard := _ } :: _) _ _
                 refine wpList_load_row_want (by rfl) 34 _ rfl w.heap.size rfl 34 x.cs.toArray (0, 0) _ (At.other (At.other (HA.out.drewN nq) (ne_succ w.heap.size) _) (ne_succ w.heap.size) _) Try.underlying34 rfl (by kernel_rfl) ?_)
              | (with_reducible show wpList _ _ _ ({ dst := _, op := .load 34 (.tmp 5), type := _, pos := _, after := _, guard := _ } :: _) _ _
                 refine wpList_load_row_want (by rfl) 34 _ rfl (w.heap.size + 1) rfl 34 (Nd.mk x.kind noSt x.a x.b false).cs.toArray (0, 0) _ (At.set (At.set (HZ.out.drewN nq) 5 _) 6 _) Try.underlying34 rfl (by kernel_rfl) ?_)
              | fail)
            go_region
            go_wp2_with (first
              | (with_reducible show wpList _ _ _ ({ dst := _, op := .load 34 (.tmp 2), type := _, pos := _, after := _, guard := _ } :: _) _ _
                 refine wpList_load_row_want (by rfl) 34 _ rfl w.heap.size rfl 34 x.cs.toArray (0, 0) _ (At.other (At.other (HA.out.drewN (nq + 1)) (ne_succ w.heap.size) _) (ne_succ w.heap.size) _) Try.underlying34 rfl (by kernel_rfl) ?_)
              | (with_reducible show wpList _ _ _ ({ dst := _, op := .load 34 (.tmp 5), type := _, pos := _, after := _, guard := _ } :: _) _ _
                 refine wpList_load_row_want (by rfl) 34 _ rfl (w.heap.size + 1) rfl 34 (Nd.mk x.kind noSt x.a x.b false).cs.toArray (0, 0) _ (At.set (At.set (HZ.out.drewN (nq + 1)) 5 _) 6 _) Try.underlying34 rfl (by kernel_rfl) ?_)
              | fail)
            go_ret
            exact ⟨by rw [HV.out, HVv.out]; rfl, (Below.setCell (Below.setCell (below_drewN' HB.out _) (Nat.le_succ _) _) (Nat.le_succ _) _)⟩
      by_cases hk4 : x.kind = 4
      · have HKd := Lib.hid hk4
        rw [hk4] at c0
        clear hk4
        have HV : Hid (x.right n = (x.eqb (Nd.mk x.kind noSt x.a x.b false) && decide (x.a < (n : Int)) && false)) := Lib.hid (by unfold Nd.right aIn; rw [decide_eq_true ha0, hb1]; simp [HKd.out])
        obtain ⟨v, hv⟩ : ∃ v, x.eqb (Nd.mk x.kind noSt x.a x.b false) = v := ⟨_, rfl⟩
        have HVv := Lib.hid hv
        have hq := fun W => ndEq W x (Nd.mk x.kind noSt x.a x.b false) v hv
        clear hv
        cases v
        · go_quiet (fail)
          obtain ⟨z0, z1, z2, z3, z4, z5, z6, z7⟩ := Nd.cells HZ.out
          have f1 := HZ.out.free 1
          have f2 := HZ.out.free 2
          have f3 := HZ.out.free 3
          have f4 := HZ.out.free 4
          have f5 := HZ.out.free 5
          have f6 := HZ.out.free 6
          have f7 := HZ.out.free 7
          go_wp2_with (first
            | (with_reducible show wpList _ _ _ ({ dst := _, op := .load 34 (.tmp 2), type := _, pos := _, after := _, guard := _ } :: _) _ _
               refine wpList_load_row_want (by rfl) 34 _ rfl w.heap.size rfl 34 x.cs.toArray (0, 0) _ (At.other (At.other (HA.out.drewN nq) (ne_succ w.heap.size) _) (ne_succ w.heap.size) _) Try.underlying34 rfl (by kernel_rfl) ?_)
            | (with_reducible show wpList _ _ _ ({ dst := _, op := .load 34 (.tmp 5), type := _, pos := _, after := _, guard := _ } :: _) _ _
               refine wpList_load_row_want (by rfl) 34 _ rfl (w.heap.size + 1) rfl 34 (Nd.mk x.kind noSt x.a x.b false).cs.toArray (0, 0) _ (At.set (At.set (HZ.out.drewN nq) 5 _) 6 _) Try.underlying34 rfl (by kernel_rfl) ?_)
            | fail)
          go_region
          go_wp2_with (first
            | (with_reducible show wpList _ _ _ ({ dst := _, op := .load 34 (.tmp 2), type := _, pos := _, after := _, guard := _ } :: _) _ _
               refine wpList_load_row_want (by rfl) 34 _ rfl w.heap.size rfl 34 x.cs.toArray (0, 0) _ (At.other (At.other (HA.out.drewN (nq + 1)) (ne_succ w.heap.size) _) (ne_succ w.heap.size) _) Try.underlying34 rfl (by kernel_rfl) ?_)
            | (with_reducible show wpList _ _ _ ({ dst := _, op := .load 34 (.tmp 5), type := _, pos := _, after := _, guard := _ } :: _) _ _
               refine wpList_load_row_want (by rfl) 34 _ rfl (w.heap.size + 1) rfl 34 (Nd.mk x.kind noSt x.a x.b false).cs.toArray (0, 0) _ (At.set (At.set (HZ.out.drewN (nq + 1)) 5 _) 6 _) Try.underlying34 rfl (by kernel_rfl) ?_)
            | fail)
          go_ret
          exact ⟨by rw [HV.out, HVv.out]; rfl, (Below.setCell (Below.setCell (below_drewN' HB.out _) (Nat.le_succ _) _) (Nat.le_succ _) _)⟩
        · by_cases hal : x.a < (n : Int)
          · have hal1 : decide (x.a < (n : Int)) = true := decide_eq_true hal
            rw [hal1] at HV
            clear hal1
            go_quiet (fail)
            obtain ⟨z0, z1, z2, z3, z4, z5, z6, z7⟩ := Nd.cells HZ.out
            have f1 := HZ.out.free 1
            have f2 := HZ.out.free 2
            have f3 := HZ.out.free 3
            have f4 := HZ.out.free 4
            have f5 := HZ.out.free 5
            have f6 := HZ.out.free 6
            have f7 := HZ.out.free 7
            go_wp2_with (first
              | (with_reducible show wpList _ _ _ ({ dst := _, op := .load 34 (.tmp 2), type := _, pos := _, after := _, guard := _ } :: _) _ _
                 refine wpList_load_row_want (by rfl) 34 _ rfl w.heap.size rfl 34 x.cs.toArray (0, 0) _ (At.other (At.other (HA.out.drewN nq) (ne_succ w.heap.size) _) (ne_succ w.heap.size) _) Try.underlying34 rfl (by kernel_rfl) ?_)
              | (with_reducible show wpList _ _ _ ({ dst := _, op := .load 34 (.tmp 5), type := _, pos := _, after := _, guard := _ } :: _) _ _
                 refine wpList_load_row_want (by rfl) 34 _ rfl (w.heap.size + 1) rfl 34 (Nd.mk x.kind noSt x.a x.b false).cs.toArray (0, 0) _ (At.set (At.set (HZ.out.drewN nq) 5 _) 6 _) Try.underlying34 rfl (by kernel_rfl) ?_)
              | fail)
            go_region
            go_wp2_with (first
              | (with_reducible show wpList _ _ _ ({ dst := _, op := .load 34 (.tmp 2), type := _, pos := _, after := _, guard := _ } :: _) _ _
                 refine wpList_load_row_want (by rfl) 34 _ rfl w.heap.size rfl 34 x.cs.toArray (0, 0) _ (At.other (At.other (HA.out.drewN (nq + 1)) (ne_succ w.heap.size) _) (ne_succ w.heap.size) _) Try.underlying34 rfl (by kernel_rfl) ?_)
              | (with_reducible show wpList _ _ _ ({ dst := _, op := .load 34 (.tmp 5), type := _, pos := _, after := _, guard := _ } :: _) _ _
                 refine wpList_load_row_want (by rfl) 34 _ rfl (w.heap.size + 1) rfl 34 (Nd.mk x.kind noSt x.a x.b false).cs.toArray (0, 0) _ (At.set (At.set (HZ.out.drewN (nq + 1)) 5 _) 6 _) Try.underlying34 rfl (by kernel_rfl) ?_)
              | fail)
            go_ret
            exact ⟨by rw [HV.out, HVv.out]; rfl, (Below.setCell (Below.setCell (below_drewN' HB.out _) (Nat.le_succ _) _) (Nat.le_succ _) _)⟩
          · have hal1 : decide (x.a < (n : Int)) = false := decide_eq_false hal
            rw [hal1] at HV
            go_quiet (fail)
            obtain ⟨z0, z1, z2, z3, z4, z5, z6, z7⟩ := Nd.cells HZ.out
            have f1 := HZ.out.free 1
            have f2 := HZ.out.free 2
            have f3 := HZ.out.free 3
            have f4 := HZ.out.free 4
            have f5 := HZ.out.free 5
            have f6 := HZ.out.free 6
            have f7 := HZ.out.free 7
            go_wp2_with (first
              | (with_reducible show wpList _ _ _ ({ dst := _, op := .load 34 (.tmp 2), type := _, pos := _, after := _, guard := _ } :: _) _ _
                 refine wpList_load_row_want (by rfl) 34 _ rfl w.heap.size rfl 34 x.cs.toArray (0, 0) _ (At.other (At.other (HA.out.drewN nq) (ne_succ w.heap.size) _) (ne_succ w.heap.size) _) Try.underlying34 rfl (by kernel_rfl) ?_)
              | (with_reducible show wpList _ _ _ ({ dst := _, op := .load 34 (.tmp 5), type := _, pos := _, after := _, guard := _ } :: _) _ _
                 refine wpList_load_row_want (by rfl) 34 _ rfl (w.heap.size + 1) rfl 34 (Nd.mk x.kind noSt x.a x.b false).cs.toArray (0, 0) _ (At.set (At.set (HZ.out.drewN nq) 5 _) 6 _) Try.underlying34 rfl (by kernel_rfl) ?_)
              | fail)
            go_region
            go_wp2_with (first
              | (with_reducible show wpList _ _ _ ({ dst := _, op := .load 34 (.tmp 2), type := _, pos := _, after := _, guard := _ } :: _) _ _
                 refine wpList_load_row_want (by rfl) 34 _ rfl w.heap.size rfl 34 x.cs.toArray (0, 0) _ (At.other (At.other (HA.out.drewN (nq + 1)) (ne_succ w.heap.size) _) (ne_succ w.heap.size) _) Try.underlying34 rfl (by kernel_rfl) ?_)
              | (with_reducible show wpList _ _ _ ({ dst := _, op := .load 34 (.tmp 5), type := _, pos := _, after := _, guard := _ } :: _) _ _
                 refine wpList_load_row_want (by rfl) 34 _ rfl (w.heap.size + 1) rfl 34 (Nd.mk x.kind noSt x.a x.b false).cs.toArray (0, 0) _ (At.set (At.set (HZ.out.drewN (nq + 1)) 5 _) 6 _) Try.underlying34 rfl (by kernel_rfl) ?_)
              | fail)
            go_ret
            exact ⟨by rw [HV.out, HVv.out]; rfl, (Below.setCell (Below.setCell (below_drewN' HB.out _) (Nat.le_succ _) _) (Nat.le_succ _) _)⟩
      by_cases hk5 : x.kind = 5
      · have HKd := Lib.hid hk5
        rw [hk5] at c0
        clear hk5
        have HV : Hid (x.right n = (x.eqb (Nd.mk x.kind noSt x.a x.b false) && decide (x.a < (n : Int)) && false)) := Lib.hid (by unfold Nd.right aIn; rw [decide_eq_true ha0, hb1]; simp [HKd.out])
        obtain ⟨v, hv⟩ : ∃ v, x.eqb (Nd.mk x.kind noSt x.a x.b false) = v := ⟨_, rfl⟩
        have HVv := Lib.hid hv
        have hq := fun W => ndEq W x (Nd.mk x.kind noSt x.a x.b false) v hv
        clear hv
        cases v
        · go_quiet (fail)
          obtain ⟨z0, z1, z2, z3, z4, z5, z6, z7⟩ := Nd.cells HZ.out
          have f1 := HZ.out.free 1
          have f2 := HZ.out.free 2
          have f3 := HZ.out.free 3
          have f4 := HZ.out.free 4
          have f5 := HZ.out.free 5
          have f6 := HZ.out.free 6
          have f7 := HZ.out.free 7
          go_wp2_with (first
            | (with_reducible show wpList _ _ _ ({ dst := _, op := .load 34 (.tmp 2), type := _, pos := _, after := _, guard := _ } :: _) _ _
               refine wpList_load_row_want (by rfl) 34 _ rfl w.heap.size rfl 34 x.cs.toArray (0, 0) _ (At.other (At.other (HA.out.drewN nq) (ne_succ w.heap.size) _) (ne_succ w.heap.size) _) Try.underlying34 rfl (by kernel_rfl) ?_)
            | (with_reducible show wpList _ _ _ ({ dst := _, op := .load 34 (.tmp 5), type := _, pos := _, after := _, guard := _ } :: _) _ _
               refine wpList_load_row_want (by rfl) 34 _ rfl (w.heap.size + 1) rfl 34 (Nd.mk x.kind noSt x.a x.b false).cs.toArray (0, 0) _ (At.set (At.set (HZ.out.drewN nq) 5 _) 6 _) Try.underlying34 rfl (by kernel_rfl) ?_)
            | fail)
          go_region
          go_wp2_with (first
            | (with_reducible show wpList _ _ _ ({ dst := _, op := .load 34 (.tmp 2), type := _, pos := _, after := _, guard := _ } :: _) _ _
               refine wpList_load_row_want (by rfl) 34 _ rfl w.heap.size rfl 34 x.cs.toArray (0, 0) _ (At.other (At.other (HA.out.drewN (nq + 1)) (ne_succ w.heap.size) _) (ne_succ w.heap.size) _) Try.underlying34 rfl (by kernel_rfl) ?_)
            | (with_reducible show wpList _ _ _ ({ dst := _, op := .load 34 (.tmp 5), type := _, pos := _, after := _, guard := _ } :: _) _ _
               refine wpList_load_row_want (by rfl) 34 _ rfl (w.heap.size + 1) rfl 34 (Nd.mk x.kind noSt x.a x.b false).cs.toArray (0, 0) _ (At.set (At.set (HZ.out.drewN (nq + 1)) 5 _) 6 _) Try.underlying34 rfl (by kernel_rfl) ?_)
            | fail)
          go_ret
          exact ⟨by rw [HV.out, HVv.out]; rfl, (Below.setCell (Below.setCell (below_drewN' HB.out _) (Nat.le_succ _) _) (Nat.le_succ _) _)⟩
        · by_cases hal : x.a < (n : Int)
          · have hal1 : decide (x.a < (n : Int)) = true := decide_eq_true hal
            rw [hal1] at HV
            clear hal1
            go_quiet (fail)
            obtain ⟨z0, z1, z2, z3, z4, z5, z6, z7⟩ := Nd.cells HZ.out
            have f1 := HZ.out.free 1
            have f2 := HZ.out.free 2
            have f3 := HZ.out.free 3
            have f4 := HZ.out.free 4
            have f5 := HZ.out.free 5
            have f6 := HZ.out.free 6
            have f7 := HZ.out.free 7
            go_wp2_with (first
              | (with_reducible show wpList _ _ _ ({ dst := _, op := .load 34 (.tmp 2), type := _, pos := _, after := _, guard := _ } :: _) _ _
                 refine wpList_load_row_want (by rfl) 34 _ rfl w.heap.size rfl 34 x.cs.toArray (0, 0) _ (At.other (At.other (HA.out.drewN nq) (ne_succ w.heap.size) _) (ne_succ w.heap.size) _) Try.underlying34 rfl (by kernel_rfl) ?_)
              | (with_reducible show wpList _ _ _ ({ dst := _, op := .load 34 (.tmp 5), type := _, pos := _, after := _, guard := _ } :: _) _ _
                 refine wpList_load_row_want (by rfl) 34 _ rfl (w.heap.size + 1) rfl 34 (Nd.mk x.kind noSt x.a x.b false).cs.toArray (0, 0) _ (At.set (At.set (HZ.out.drewN nq) 5 _) 6 _) Try.underlying34 rfl (by kernel_rfl) ?_)
              | fail)
            go_region
            go_wp2_with (first
              | (with_reducible show wpList _ _ _ ({ dst := _, op := .load 34 (.tmp 2), type := _, pos := _, after := _, guard := _ } :: _) _ _
                 refine wpList_load_row_want (by rfl) 34 _ rfl w.heap.size rfl 34 x.cs.toArray (0, 0) _ (At.other (At.other (HA.out.drewN (nq + 1)) (ne_succ w.heap.size) _) (ne_succ w.heap.size) _) Try.underlying34 rfl (by kernel_rfl) ?_)
              | (with_reducible show wpList _ _ _ ({ dst := _, op := .load 34 (.tmp 5), type := _, pos := _, after := _, guard := _ } :: _) _ _
                 refine wpList_load_row_want (by rfl) 34 _ rfl (w.heap.size + 1) rfl 34 (Nd.mk x.kind noSt x.a x.b false).cs.toArray (0, 0) _ (At.set (At.set (HZ.out.drewN (nq + 1)) 5 _) 6 _) Try.underlying34 rfl (by kernel_rfl) ?_)
              | fail)
            go_ret
            exact ⟨by rw [HV.out, HVv.out]; rfl, (Below.setCell (Below.setCell (below_drewN' HB.out _) (Nat.le_succ _) _) (Nat.le_succ _) _)⟩
          · have hal1 : decide (x.a < (n : Int)) = false := decide_eq_false hal
            rw [hal1] at HV
            go_quiet (fail)
            obtain ⟨z0, z1, z2, z3, z4, z5, z6, z7⟩ := Nd.cells HZ.out
            have f1 := HZ.out.free 1
            have f2 := HZ.out.free 2
            have f3 := HZ.out.free 3
            have f4 := HZ.out.free 4
            have f5 := HZ.out.free 5
            have f6 := HZ.out.free 6
            have f7 := HZ.out.free 7
            go_wp2_with (first
              | (with_reducible show wpList _ _ _ ({ dst := _, op := .load 34 (.tmp 2), type := _, pos := _, after := _, guard := _ } :: _) _ _
                 refine wpList_load_row_want (by rfl) 34 _ rfl w.heap.size rfl 34 x.cs.toArray (0, 0) _ (At.other (At.other (HA.out.drewN nq) (ne_succ w.heap.size) _) (ne_succ w.heap.size) _) Try.underlying34 rfl (by kernel_rfl) ?_)
              | (with_reducible show wpList _ _ _ ({ dst := _, op := .load 34 (.tmp 5), type := _, pos := _, after := _, guard := _ } :: _) _ _
                 refine wpList_load_row_want (by rfl) 34 _ rfl (w.heap.size + 1) rfl 34 (Nd.mk x.kind noSt x.a x.b false).cs.toArray (0, 0) _ (At.set (At.set (HZ.out.drewN nq) 5 _) 6 _) Try.underlying34 rfl (by kernel_rfl) ?_)
              | fail)
            go_region
            go_wp2_with (first
              | (with_reducible show wpList _ _ _ ({ dst := _, op := .load 34 (.tmp 2), type := _, pos := _, after := _, guard := _ } :: _) _ _
                 refine wpList_load_row_want (by rfl) 34 _ rfl w.heap.size rfl 34 x.cs.toArray (0, 0) _ (At.other (At.other (HA.out.drewN (nq + 1)) (ne_succ w.heap.size) _) (ne_succ w.heap.size) _) Try.underlying34 rfl (by kernel_rfl) ?_)
              | (with_reducible show wpList _ _ _ ({ dst := _, op := .load 34 (.tmp 5), type := _, pos := _, after := _, guard := _ } :: _) _ _
                 refine wpList_load_row_want (by rfl) 34 _ rfl (w.heap.size + 1) rfl 34 (Nd.mk x.kind noSt x.a x.b false).cs.toArray (0, 0) _ (At.set (At.set (HZ.out.drewN (nq + 1)) 5 _) 6 _) Try.underlying34 rfl (by kernel_rfl) ?_)
              | fail)
            go_ret
            exact ⟨by rw [HV.out, HVv.out]; rfl, (Below.setCell (Below.setCell (below_drewN' HB.out _) (Nat.le_succ _) _) (Nat.le_succ _) _)⟩
      by_cases hk6 : x.kind = 6
      · have HKd := Lib.hid hk6
        rw [hk6] at c0
        clear hk6
        have HV : Hid (x.right n = (x.eqb (Nd.mk x.kind noSt x.a 0 false) && decide (x.a < (n : Int)))) := Lib.hid (by unfold Nd.right aIn; rw [decide_eq_true ha0, hb1]; simp [HKd.out])
        obtain ⟨v, hv⟩ : ∃ v, x.eqb (Nd.mk x.kind noSt x.a 0 false) = v := ⟨_, rfl⟩
        have HVv := Lib.hid hv
        have hq := fun W => ndEq W x (Nd.mk x.kind noSt x.a 0 false) v hv
        clear hv
        cases v
        · go_quiet (fail)
          obtain ⟨z0, z1, z2, z3, z4, z5, z6, z7⟩ := Nd.cells HZ.out
          have f1 := HZ.out.free 1
          have f2 := HZ.out.free 2
          have f3 := HZ.out.free 3
          have f4 := HZ.out.free 4
          have f5 := HZ.out.free 5
          have f6 := HZ.out.free 6
          have f7 := HZ.out.free 7
          go_wp2_with (first
            | (with_reducible show wpList _ _ _ ({ dst := _, op := .load 34 (.tmp 2), type := _, pos := _, after := _, guard := _ } :: _) _ _
               refine wpList_load_row_want (by rfl) 34 _ rfl w.heap.size rfl 34 x.cs.toArray (0, 0) _ (At.other (HA.out.drewN nq) (ne_succ w.heap.size) _) Try.underlying34 rfl (by kernel_rfl) ?_)
            | (with_reducible show wpList _ _ _ ({ dst := _, op := .load 34 (.tmp 5), type := _, pos := _, after := _, guard := _ } :: _) _ _
               refine wpList_load_row_want (by rfl) 34 _ rfl (w.heap.size + 1) rfl 34 (Nd.mk x.kind noSt x.a 0 false).cs.toArray (0, 0) _ (At.set (HZ.out.drewN nq) 5 _) Try.underlying34 rfl (by kernel_rfl) ?_)
            | fail)
          go_ret
          exact ⟨by rw [HV.out, HVv.out]; rfl, (Below.setCell (below_drewN' HB.out _) (Nat.le_succ _) _)⟩
        · go_quiet (fail)
          obtain ⟨z0, z1, z2, z3, z4, z5, z6, z7⟩ := Nd.cells HZ.out
          have f1 := HZ.out.free 1
          have f2 := HZ.out.free 2
          have f3 := HZ.out.free 3
          have f4 := HZ.out.free 4
          have f5 := HZ.out.free 5
          have f6 := HZ.out.free 6
          have f7 := HZ.out.free 7
          go_wp2_with (first
            | (with_reducible show wpList _ _ _ ({ dst := _, op := .load 34 (.tmp 2), type := _, pos := _, after := _, guard := _ } :: _) _ _
               refine wpList_load_row_want (by rfl) 34 _ rfl w.heap.size rfl 34 x.cs.toArray (0, 0) _ (At.other (HA.out.drewN nq) (ne_succ w.heap.size) _) Try.underlying34 rfl (by kernel_rfl) ?_)
            | (with_reducible show wpList _ _ _ ({ dst := _, op := .load 34 (.tmp 5), type := _, pos := _, after := _, guard := _ } :: _) _ _
               refine wpList_load_row_want (by rfl) 34 _ rfl (w.heap.size + 1) rfl 34 (Nd.mk x.kind noSt x.a 0 false).cs.toArray (0, 0) _ (At.set (HZ.out.drewN nq) 5 _) Try.underlying34 rfl (by kernel_rfl) ?_)
            | fail)
          go_ret
          exact ⟨by rw [HV.out, HVv.out]; rfl, (Below.setCell (below_drewN' HB.out _) (Nat.le_succ _) _)⟩
      by_cases hk7 : x.kind = 7
      · have HKd := Lib.hid hk7
        rw [hk7] at c0
        clear hk7
        have HV : Hid (x.right n = (x.eqb (Nd.mk x.kind noSt x.a 0 false) && decide (x.a < (n : Int)))) := Lib.hid (by unfold Nd.right aIn; rw [decide_eq_true ha0, hb1]; simp [HKd.out])
        obtain ⟨v, hv⟩ : ∃ v, x.eqb (Nd.mk x.kind noSt x.a 0 false) = v := ⟨_, rfl⟩
        have HVv := Lib.hid hv
        have hq := fun W => ndEq W x (Nd.mk x.kind noSt x.a 0 false) v hv
        clear hv
        cases v
        · go_quiet (fail)
          obtain ⟨z0, z1, z2, z3, z4, z5, z6, z7⟩ := Nd.cells HZ.out
          have f1 := HZ.out.free 1
          have f2 := HZ.out.free 2
          have f3 := HZ.out.free 3
          have f4 := HZ.out.free 4
          have f5 := HZ.out.free 5
          have f6 := HZ.out.free 6
          have f7 := HZ.out.free 7
          go_wp2_with (first
            | (with_reducible show wpList _ _ _ ({ dst := _, op := .load 34 (.tmp 2), type := _, pos := _, after := _, guard := _ } :: _) _ _
               refine wpList_load_row_want (by rfl) 34 _ rfl w.heap.size rfl 34 x.cs.toArray (0, 0) _ (At.other (HA.out.drewN nq) (ne_succ w.heap.size) _) Try.underlying34 rfl (by kernel_rfl) ?_)
            | (with_reducible show wpList _ _ _ ({ dst := _, op := .load 34 (.tmp 5), type := _, pos := _, after := _, guard := _ } :: _) _ _
               refine wpList_load_row_want (by rfl) 34 _ rfl (w.heap.size + 1) rfl 34 (Nd.mk x.kind noSt x.a 0 false).cs.toArray (0, 0) _ (At.set (HZ.out.drewN nq) 5 _) Try.underlying34 rfl (by kernel_rfl) ?_)
            | fail)
          go_ret
          exact ⟨by rw [HV.out, HVv.out]; rfl, (Below.setCell (below_drewN' HB.out _) (Nat.le_succ _) _)⟩
        · go_quiet (fail)
          obtain ⟨z0, z1, z2, z3, z4, z5, z6, z7⟩ := Nd.cells HZ.out
          have f1 := HZ.out.free 1
          have f2 := HZ.out.free 2
          have f3 := HZ.out.free 3
          have f4 := HZ.out.free 4
          have f5 := HZ.out.free 5
          have f6 := HZ.out.free 6
          have f7 := HZ.out.free 7
          go_wp2_with (first
            | (with_reducible show wpList _ _ _ ({ dst := _, op := .load 34 (.tmp 2), type := _, pos := _, after := _, guard := _ } :: _) _ _
               refine wpList_load_row_want (by rfl) 34 _ rfl w.heap.size rfl 34 x.cs.toArray (0, 0) _ (At.other (HA.out.drewN nq) (ne_succ w.heap.size) _) Try.underlying34 rfl (by kernel_rfl) ?_)
            | (with_reducible show wpList _ _ _ ({ dst := _, op := .load 34 (.tmp 5), type := _, pos := _, after := _, guard := _ } :: _) _ _
               refine wpList_load_row_want (by rfl) 34 _ rfl (w.heap.size + 1) rfl 34 (Nd.mk x.kind noSt x.a 0 false).cs.toArray (0, 0) _ (At.set (HZ.out.drewN nq) 5 _) Try.underlying34 rfl (by kernel_rfl) ?_)
            | fail)
          go_ret
          exact ⟨by rw [HV.out, HVv.out]; rfl, (Below.setCell (below_drewN' HB.out _) (Nat.le_succ _) _)⟩
      by_cases hk8 : x.kind = 8
      · have HKd := Lib.hid hk8
        rw [hk8] at c0
        clear hk8
        have HV : Hid (x.right n = (x.eqb (Nd.mk x.kind noSt x.a 0 x.neg) && decide (x.a < 4))) := Lib.hid (by unfold Nd.right aIn; rw [decide_eq_true ha0, hb1]; simp [HKd.out])
        obtain ⟨v, hv⟩ : ∃ v, x.eqb (Nd.mk x.kind noSt x.a 0 x.neg) = v := ⟨_, rfl⟩
        have HVv := Lib.hid hv
        have hq := fun W => ndEq W x (Nd.mk x.kind noSt x.a 0 x.neg) v hv
        clear hv
        cases v
        · go_quiet (fail)
          obtain ⟨z0, z1, z2, z3, z4, z5, z6, z7⟩ := Nd.cells HZ.out
          have f1 := HZ.out.free 1
          have f2 := HZ.out.free 2
          have f3 := HZ.out.free 3
          have f4 := HZ.out.free 4
          have f5 := HZ.out.free 5
          have f6 := HZ.out.free 6
          have f7 := HZ.out.free 7
          go_wp2_with (first
            | (with_reducible show wpList _ _ _ ({ dst := _, op := .load 34 (.tmp 2), type := _, pos := _, after := _, guard := _ } :: _) _ _
               refine wpList_load_row_want (by rfl) 34 _ rfl w.heap.size rfl 34 x.cs.toArray (0, 0) _ (At.other (At.other (HA.out.drewN nq) (ne_succ w.heap.size) _) (ne_succ w.heap.size) _) Try.underlying34 rfl (by kernel_rfl) ?_)
            | (with_reducible show wpList _ _ _ ({ dst := _, op := .load 34 (.tmp 5), type := _, pos := _, after := _, guard := _ } :: _) _ _
               refine wpList_load_row_want (by rfl) 34 _ rfl (w.heap.size + 1) rfl 34 (Nd.mk x.kind noSt x.a 0 x.neg).cs.toArray (0, 0) _ (At.set (At.set (HZ.out.drewN nq) 5 _) 7 _) Try.underlying34 rfl (by kernel_rfl) ?_)
            | fail)
          go_region
          go_wp2_with (first
            | (with_reducible show wpList _ _ _ ({ dst := _, op := .load 34 (.tmp 2), type := _, pos := _, after := _, guard := _ } :: _) _ _
               refine wpList_load_row_want (by rfl) 34 _ rfl w.heap.size rfl 34 x.cs.toArray (0, 0) _ (At.other (At.other (HA.out.drewN (nq + 1)) (ne_succ w.heap.size) _) (ne_succ w.heap.size) _) Try.underlying34 rfl (by kernel_rfl) ?_)
            | (with_reducible show wpList _ _ _ ({ dst := _, op := .load 34 (.tmp 5), type := _, pos := _, after := _, guard := _ } :: _) _ _
               refine wpList_load_row_want (by rfl) 34 _ rfl (w.heap.size + 1) rfl 34 (Nd.mk x.kind noSt x.a 0 x.neg).cs.toArray (0, 0) _ (At.set (At.set (HZ.out.drewN (nq + 1)) 5 _) 7 _) Try.underlying34 rfl (by kernel_rfl) ?_)
            | fail)
          go_ret
          exact ⟨by rw [HV.out, HVv.out]; rfl, (Below.setCell (Below.setCell (below_drewN' HB.out _) (Nat.le_succ _) _) (Nat.le_succ _) _)⟩
        · go_quiet (fail)
          obtain ⟨z0, z1, z2, z3, z4, z5, z6, z7⟩ := Nd.cells HZ.out
          have f1 := HZ.out.free 1
          have f2 := HZ.out.free 2
          have f3 := HZ.out.free 3
          have f4 := HZ.out.free 4
          have f5 := HZ.out.free 5
          have f6 := HZ.out.free 6
          have f7 := HZ.out.free 7
          go_wp2_with (first
            | (with_reducible show wpList _ _ _ ({ dst := _, op := .load 34 (.tmp 2), type := _, pos := _, after := _, guard := _ } :: _) _ _
               refine wpList_load_row_want (by rfl) 34 _ rfl w.heap.size rfl 34 x.cs.toArray (0, 0) _ (At.other (At.other (HA.out.drewN nq) (ne_succ w.heap.size) _) (ne_succ w.heap.size) _) Try.underlying34 rfl (by kernel_rfl) ?_)
            | (with_reducible show wpList _ _ _ ({ dst := _, op := .load 34 (.tmp 5), type := _, pos := _, after := _, guard := _ } :: _) _ _
               refine wpList_load_row_want (by rfl) 34 _ rfl (w.heap.size + 1) rfl 34 (Nd.mk x.kind noSt x.a 0 x.neg).cs.toArray (0, 0) _ (At.set (At.set (HZ.out.drewN nq) 5 _) 7 _) Try.underlying34 rfl (by kernel_rfl) ?_)
            | fail)
          go_region
          go_wp2_with (first
            | (with_reducible show wpList _ _ _ ({ dst := _, op := .load 34 (.tmp 2), type := _, pos := _, after := _, guard := _ } :: _) _ _
               refine wpList_load_row_want (by rfl) 34 _ rfl w.heap.size rfl 34 x.cs.toArray (0, 0) _ (At.other (At.other (HA.out.drewN (nq + 1)) (ne_succ w.heap.size) _) (ne_succ w.heap.size) _) Try.underlying34 rfl (by kernel_rfl) ?_)
            | (with_reducible show wpList _ _ _ ({ dst := _, op := .load 34 (.tmp 5), type := _, pos := _, after := _, guard := _ } :: _) _ _
               refine wpList_load_row_want (by rfl) 34 _ rfl (w.heap.size + 1) rfl 34 (Nd.mk x.kind noSt x.a 0 x.neg).cs.toArray (0, 0) _ (At.set (At.set (HZ.out.drewN (nq + 1)) 5 _) 7 _) Try.underlying34 rfl (by kernel_rfl) ?_)
            | fail)
          go_ret
          exact ⟨by rw [HV.out, HVv.out]; rfl, (Below.setCell (Below.setCell (below_drewN' HB.out _) (Nat.le_succ _) _) (Nat.le_succ _) _)⟩
      have hb0 := (int_ne hk0).1
      have h0 := Lib.hid hk0
      have hb1 := (int_ne hk1).1
      have h1 := Lib.hid hk1
      have hb2 := (int_ne hk2).1
      have h2 := Lib.hid hk2
      have hb3 := (int_ne hk3).1
      have h3 := Lib.hid hk3
      have hb4 := (int_ne hk4).1
      have h4 := Lib.hid hk4
      have hb5 := (int_ne hk5).1
      have h5 := Lib.hid hk5
      have hb6 := (int_ne hk6).1
      have h6 := Lib.hid hk6
      have hb7 := (int_ne hk7).1
      have h7 := Lib.hid hk7
      have hb8 := (int_ne hk8).1
      have h8 := Lib.hid hk8
      clear hk0 hk1 hk2 hk3 hk4 hk5 hk6 hk7 hk8
      have HV : Hid (x.right n = false) := Lib.hid (by unfold Nd.right; simp [h0.out, h1.out, h2.out, h3.out, h4.out, h5.out, h6.out, h7.out, h8.out])
      go_quiet (fail)
      go_wp2_with fail
      go_ret
      exact ⟨by rw [HV.out]; rfl, (below_drewN' HB.out _)⟩
  · have ha1 : decide ((0 : Int) ≤ x.a) = false := decide_eq_false ha0
    by_cases hb0 : (0 : Int) ≤ x.b
    · obtain ⟨c0, c1, c2, c3, c4, c5, c6, c7⟩ := Nd.cells HA.out
      by_cases hk0 : x.kind = 0
      · have HKd := Lib.hid hk0
        rw [hk0] at c0
        clear hk0
        have HV : Hid (x.right n = x.eqb x.bare) := Lib.hid (by unfold Nd.right; simp [HKd.out])
        obtain ⟨v, hv⟩ : ∃ v, x.eqb x.bare = v := ⟨_, rfl⟩
        have HVv := Lib.hid hv
        have hq := fun W => ndEq W x x.bare v hv
        clear hv
        go_quiet (fail)
        go_wp2_with (first
          | (with_reducible show wpList _ _ _ ({ dst := _, op := .load 34 (.tmp 2), type := _, pos := _, after := _, guard := _ } :: _) _ _
             refine wpList_load_row_want (by rfl) 34 _ rfl w.heap.size rfl 34 x.cs.toArray (0, 0) _ (HA.out.drewN nq) Try.underlying34 rfl (by kernel_rfl) ?_)
          | (with_reducible show wpList _ _ _ ({ dst := _, op := .load 34 (.tmp 5), type := _, pos := _, after := _, guard := _ } :: _) _ _
             refine wpList_load_row_want (by rfl) 34 _ rfl (w.heap.size + 1) rfl 34 x.bare.cs.toArray (0, 0) _ (HZ.out.drewN nq) Try.underlying34 rfl (by kernel_rfl) ?_)
          | fail)
        go_ret
        exact ⟨by rw [HV.out, HVv.out]; rfl, (below_drewN' HB.out _)⟩
      by_cases hk1 : x.kind = 1
      · have HKd := Lib.hid hk1
        rw [hk1] at c0
        clear hk1
        have HV : Hid (x.right n = x.eqb x.bare) := Lib.hid (by unfold Nd.right; simp [HKd.out])
        obtain ⟨v, hv⟩ : ∃ v, x.eqb x.bare = v := ⟨_, rfl⟩
        have HVv := Lib.hid hv
        have hq := fun W => ndEq W x x.bare v hv
        clear hv
        go_quiet (fail)
        go_wp2_with (first
          | (with_reducible show wpList _ _ _ ({ dst := _, op := .load 34 (.tmp 2), type := _, pos := _, after := _, guard := _ } :: _) _ _
             refine wpList_load_row_want (by rfl) 34 _ rfl w.heap.size rfl 34 x.cs.toArray (0, 0) _ (HA.out.drewN nq) Try.underlying34 rfl (by kernel_rfl) ?_)
          | (with_reducible show wpList _ _ _ ({ dst := _, op := .load 34 (.tmp 5), type := _, pos := _, after := _, guard := _ } :: _) _ _
             refine wpList_load_row_want (by rfl) 34 _ rfl (w.heap.size + 1) rfl 34 x.bare.cs.toArray (0, 0) _ (HZ.out.drewN nq) Try.underlying34 rfl (by kernel_rfl) ?_)
          | fail)
        go_ret
        exact ⟨by rw [HV.out, HVv.out]; rfl, (below_drewN' HB.out _)⟩
      by_cases hk2 : x.kind = 2
      · have HKd := Lib.hid hk2
        rw [hk2] at c0
        clear hk2
        have HV : Hid (x.right n = x.eqb (Nd.mk x.kind x.set 0 0 false)) := Lib.hid (by unfold Nd.right aIn; rw [ha1, decide_eq_true hb0]; simp [HKd.out])
        obtain ⟨v, hv⟩ : ∃ v, x.eqb (Nd.mk x.kind x.set 0 0 false) = v := ⟨_, rfl⟩
        have HVv := Lib.hid hv
        have hq := fun W => ndEq W x (Nd.mk x.kind x.set 0 0 false) v hv
        clear hv
        go_quiet (fail)
        obtain ⟨z0, z1, z2, z3, z4, z5, z6, z7⟩ := Nd.cells HZ.out
        have f1 := HZ.out.free 1
        have f2 := HZ.out.free 2
        have f3 := HZ.out.free 3
        have f4 := HZ.out.free 4
        have f5 := HZ.out.free 5
        have f6 := HZ.out.free 6
        have f7 := HZ.out.free 7
        go_wp2_with (first
          | (with_reducible show wpList _ _ _ ({ dst := _, op := .load 34 (.tmp 2), type := _, pos := _, after := _, guard := _ } :: _) _ _
             refine wpList_load_row_want (by rfl) 34 _ rfl w.heap.size rfl 34 x.cs.toArray (0, 0) _ (At.other (At.other (At.other (At.other (HA.out.drewN nq) (ne_succ w.heap.size) _) (ne_succ w.heap.size) _) (ne_succ w.heap.size) _) (ne_succ w.heap.size) _) Try.underlying34 rfl (by kernel_rfl) ?_)
          | (with_reducible show wpList _ _ _ ({ dst := _, op := .load 34 (.tmp 5), type := _, pos := _, after := _, guard := _ } :: _) _ _
             refine wpList_load_row_want (by rfl) 34 _ rfl (w.heap.size + 1) rfl 34 (Nd.mk x.kind x.set 0 0 false).cs.toArray (0, 0) _ (At.set (At.set (At.set (At.set (HZ.out.drewN nq) 1 _) 2 _) 3 _) 4 _) Try.underlying34 rfl (by kernel_rfl) ?_)
          | fail)
        go_ret
        exact ⟨by rw [HV.out, HVv.out]; rfl, (Below.setCell (Below.setCell (Below.setCell (Below.setCell (below_drewN' HB.out _) (Nat.le_succ _) _) (Nat.le_succ _) _) (Nat.le_succ _) _) (Nat.le_succ _) _)⟩
      by_cases hk3 : x.kind = 3
      · have HKd := Lib.hid hk3
        rw [hk3] at c0
        clear hk3
        have HV : Hid (x.right n = (x.eqb (Nd.mk x.kind noSt x.a x.b false) && false && decide (x.b < (n : Int)))) := Lib.hid (by unfold Nd.right aIn; rw [ha1, decide_eq_true hb0]; simp [HKd.out])
        obtain ⟨v, hv⟩ : ∃ v, x.eqb (Nd.mk x.kind noSt x.a x.b false) = v := ⟨_, rfl⟩
        have HVv := Lib.hid hv
        have hq := fun W => ndEq W x (Nd.mk x.kind noSt x.a x.b false) v hv
        clear hv
        cases v
        · go_quiet (fail)
          obtain ⟨z0, z1, z2, z3, z4, z5, z6, z7⟩ := Nd.cells HZ.out
          have f1 := HZ.out.free 1
          have f2 := HZ.out.free 2
          have f3 := HZ.out.free 3
          have f4 := HZ.out.free 4
          have f5 := HZ.out.free 5
          have f6 := HZ.out.free 6
          have f7 := HZ.out.free 7
          go_wp2_with (first
            | (with_reducible show wpList _ _ _ ({ dst := _, op := .load 34 (.tmp 2), type := _, pos := _, after := _, guard := _ } :: _) _ _
               refine wpList_load_row_want (by rfl) 34 _ rfl w.heap.size rfl 34 x.cs.toArray (0, 0) _ (At.other (At.other (HA.out.drewN nq) (ne_succ w.heap.size) _) (ne_succ w.heap.size) _) Try.underlying34 rfl (by kernel_rfl) ?_)
            | (with_reducible show wpList _ _ _ ({ dst := _, op := .load 34 (.tmp 5), type := _, pos := _, after := _, guard := _ } :: _) _ _
               refine wpList_load_row_want (by rfl) 34 _ rfl (w.heap.size + 1) rfl 34 (Nd.mk x.kind noSt x.a x.b false).cs.toArray (0, 0) _ (At.set (At.set (HZ.out.drewN nq) 5 _) 6 _) Try.underlying34 rfl (by kernel_rfl) ?_)
            | fail)
          go_region
          go_wp2_with (first
            | (with_reducible show wpList _ _ _ ({ dst := _, op := .load 34 (.tmp 2), type := _, pos := _, after := _, guard := _ } :: _) _ _
               refine wpList_load_row_want (by rfl) 34 _ rfl w.heap.size rfl 34 x.cs.toArray (0, 0) _ (At.other (At.other (HA.out.drewN (nq + 1)) (ne_succ w.heap.size) _) (ne_succ w.heap.size) _) Try.underlying34 rfl (by kernel_rfl) ?_)
            | (with_reducible show wpList _ _ _ ({ dst := _, op := .load 34 (.tmp 5), type := _, pos := _, after := _, guard := _ } :: _) _ _
               refine wpList_load_row_want (by rfl) 34 _ rfl (w.heap.size + 1) rfl 34 (Nd.mk x.kind noSt x.a x.b false).cs.toArray (0, 0) _ (At.set (At.set (HZ.out.drewN (nq + 1)) 5 _) 6 _) Try.underlying34 rfl (by kernel_rfl) ?_)
            | fail)
          go_ret
          exact ⟨by rw [HV.out, HVv.out]; rfl, (Below.setCell (Below.setCell (below_drewN' HB.out _) (Nat.le_succ _) _) (Nat.le_succ _) _)⟩
        · go_quiet (fail)
          obtain ⟨z0, z1, z2, z3, z4, z5, z6, z7⟩ := Nd.cells HZ.out
          have f1 := HZ.out.free 1
          have f2 := HZ.out.free 2
          have f3 := HZ.out.free 3
          have f4 := HZ.out.free 4
          have f5 := HZ.out.free 5
          have f6 := HZ.out.free 6
          have f7 := HZ.out.free 7
          go_wp2_with (first
            | (with_reducible show wpList _ _ _ ({ dst := _, op := .load 34 (.tmp 2), type := _, pos := _, after := _, guard := _ } :: _) _ _
               refine wpList_load_row_want (by rfl) 34 _ rfl w.heap.size rfl 34 x.cs.toArray (0, 0) _ (At.other (At.other (HA.out.drewN nq) (ne_succ w.heap.size) _) (ne_succ w.heap.size) _) Try.underlying34 rfl (by kernel_rfl) ?_)
            | (with_reducible show wpList _ _ _ ({ dst := _, op := .load 34 (.tmp 5), type := _, pos := _, after := _, guard := _ } :: _) _ _
               refine wpList_load_row_want (by rfl) 34 _ rfl (w.heap.size + 1) rfl 34 (Nd.mk x.kind noSt x.a x.b false).cs.toArray (0, 0) _ (At.set (At.set (HZ.out.drewN nq) 5 _) 6 _) Try.underlying34 rfl (by kernel_rfl) ?_)
            | fail)
          go_region
          go_wp2_with (first
            | (with_reducible show wpList _ _ _ ({ dst := _, op := .load 34 (.tmp 2), type := _, pos := _, after := _, guard := _ } :: _) _ _
               refine wpList_load_row_want (by rfl) 34 _ rfl w.heap.size rfl 34 x.cs.toArray (0, 0) _ (At.other (At.other (HA.out.drewN (nq + 1)) (ne_succ w.heap.size) _) (ne_succ w.heap.size) _) Try.underlying34 rfl (by kernel_rfl) ?_)
            | (with_reducible show wpList _ _ _ ({ dst := _, op := .load 34 (.tmp 5), type := _, pos := _, after := _, guard := _ } :: _) _ _
               refine wpList_load_row_want (by rfl) 34 _ rfl (w.heap.size + 1) rfl 34 (Nd.mk x.kind noSt x.a x.b false).cs.toArray (0, 0) _ (At.set (At.set (HZ.out.drewN (nq + 1)) 5 _) 6 _) Try.underlying34 rfl (by kernel_rfl) ?_)
            | fail)
          go_ret
          exact ⟨by rw [HV.out, HVv.out]; rfl, (Below.setCell (Below.setCell (below_drewN' HB.out _) (Nat.le_succ _) _) (Nat.le_succ _) _)⟩
      by_cases hk4 : x.kind = 4
      · have HKd := Lib.hid hk4
        rw [hk4] at c0
        clear hk4
        have HV : Hid (x.right n = (x.eqb (Nd.mk x.kind noSt x.a x.b false) && false && decide (x.b < (n : Int)))) := Lib.hid (by unfold Nd.right aIn; rw [ha1, decide_eq_true hb0]; simp [HKd.out])
        obtain ⟨v, hv⟩ : ∃ v, x.eqb (Nd.mk x.kind noSt x.a x.b false) = v := ⟨_, rfl⟩
        have HVv := Lib.hid hv
        have hq := fun W => ndEq W x (Nd.mk x.kind noSt x.a x.b false) v hv
        clear hv
        cases v
        · go_quiet (fail)
          obtain ⟨z0, z1, z2, z3, z4, z5, z6, z7⟩ := Nd.cells HZ.out
          have f1 := HZ.out.free 1
          have f2 := HZ.out.free 2
          have f3 := HZ.out.free 3
          have f4 := HZ.out.free 4
          have f5 := HZ.out.free 5
          have f6 := HZ.out.free 6
          have f7 := HZ.out.free 7
          go_wp2_with (first
            | (with_reducible show wpList _ _ _ ({ dst := _, op := .load 34 (.tmp 2), type := _, pos := _, after := _, guard := _ } :: _) _ _
               refine wpList_load_row_want (by rfl) 34 _ rfl w.heap.size rfl 34 x.cs.toArray (0, 0) _ (At.other (At.other (HA.out.drewN nq) (ne_succ w.heap.size) _) (ne_succ w.heap.size) _) Try.underlying34 rfl (by kernel_rfl) ?_)
            | (with_reducible show wpList _ _ _ ({ dst := _, op := .load 34 (.tmp 5), type := _, pos := _, after := _, guard := _ } :: _) _ _
               refine wpList_load_row_want (by rfl) 34 _ rfl (w.heap.size + 1) rfl 34 (Nd.mk x.kind noSt x.a x.b false).cs.toArray (0, 0) _ (At.set (At.set (HZ.out.drewN nq) 5 _) 6 _) Try.underlying34 rfl (by kernel_rfl) ?_)
            | fail)
          go_region
          go_wp2_with (first
            | (with_reducible show wpList _ _ _ ({ dst := _, op := .load 34 (.tmp 2), type := _, pos := _, after := _, guard := _ } :: _) _ _
               refine wpList_load_row_want (by rfl) 34 _ rfl w.heap.size rfl 34 x.cs.toArray (0, 0) _ (At.other (At.other (HA.out.drewN (nq + 1)) (ne_succ w.heap.size) _) (ne_succ w.heap.size) _) Try.underlying34 rfl (by kernel_rfl) ?_)
            | (with_reducible show wpList _ _ _ ({ dst := _, op := .load 34 (.tmp 5), type := _, pos := _, after := _, guard := _ } :: _) _ _
               refine wpList_load_row_want (by rfl) 34 _ rfl (w.heap.size + 1) rfl 34 (Nd.mk x.kind noSt x.a x.b false).cs.toArray (0, 0) _ (At.set (At.set (HZ.out.drewN (nq + 1)) 5 _) 6 _) Try.underlying34 rfl (by kernel_rfl) ?_)
            | fail)
          go_ret
          exact ⟨by rw [HV.out, HVv.out]; rfl, (Below.setCell (Below.setCell (below_drewN' HB.out _) (Nat.le_succ _) _) (Nat.le_succ _) _)⟩
        · go_quiet (fail)
          obtain ⟨z0, z1, z2, z3, z4, z5, z6, z7⟩ := Nd.cells HZ.out
          have f1 := HZ.out.free 1
          have f2 := HZ.out.free 2
          have f3 := HZ.out.free 3
          have f4 := HZ.out.free 4
          have f5 := HZ.out.free 5
          have f6 := HZ.out.free 6
          have f7 := HZ.out.free 7
          go_wp2_with (first
            | (with_reducible show wpList _ _ _ ({ dst := _, op := .load 34 (.tmp 2), type := _, pos := _, after := _, guard := _ } :: _) _ _
               refine wpList_load_row_want (by rfl) 34 _ rfl w.heap.size rfl 34 x.cs.toArray (0, 0) _ (At.other (At.other (HA.out.drewN nq) (ne_succ w.heap.size) _) (ne_succ w.heap.size) _) Try.underlying34 rfl (by kernel_rfl) ?_)
            | (with_reducible show wpList _ _ _ ({ dst := _, op := .load 34 (.tmp 5), type := _, pos := _, after := _, guard := _ } :: _) _ _
               refine wpList_load_row_want (by rfl) 34 _ rfl (w.heap.size + 1) rfl 34 (Nd.mk x.kind noSt x.a x.b false).cs.toArray (0, 0) _ (At.set (At.set (HZ.out.drewN nq) 5 _) 6 _) Try.underlying34 rfl (by kernel_rfl) ?_)
            | fail)
          go_region
          go_wp2_with (first
            | (with_reducible show wpList _ _ _ ({ dst := _, op := .load 34 (.tmp 2), type := _, pos := _, after := _, guard := _ } :: _) _ _
               refine wpList_load_row_want (by rfl) 34 _ rfl w.heap.size rfl 34 x.cs.toArray (0, 0) _ (At.other (At.other (HA.out.drewN (nq + 1)) (ne_succ w.heap.size) _) (ne_succ w.heap.size) _) Try.underlying34 rfl (by kernel_rfl) ?_)
            | (with_reducible show wpList _ _ _ ({ dst := _, op := .load 34 (.tmp 5), type := _, pos := _, after := _, guard := _ } :: _) _ _
               refine wpList_load_row_want (by rfl) 34 _ rfl (w.heap.size + 1) rfl 34 (Nd.mk x.kind noSt x.a x.b false).cs.toArray (0, 0) _ (At.set (At.set (HZ.out.drewN (nq + 1)) 5 _) 6 _) Try.underlying34 rfl (by kernel_rfl) ?_)
            | fail)
          go_ret
          exact ⟨by rw [HV.out, HVv.out]; rfl, (Below.setCell (Below.setCell (below_drewN' HB.out _) (Nat.le_succ _) _) (Nat.le_succ _) _)⟩
      by_cases hk5 : x.kind = 5
      · have HKd := Lib.hid hk5
        rw [hk5] at c0
        clear hk5
        have HV : Hid (x.right n = (x.eqb (Nd.mk x.kind noSt x.a x.b false) && false && decide (x.b < (n : Int)))) := Lib.hid (by unfold Nd.right aIn; rw [ha1, decide_eq_true hb0]; simp [HKd.out])
        obtain ⟨v, hv⟩ : ∃ v, x.eqb (Nd.mk x.kind noSt x.a x.b false) = v := ⟨_, rfl⟩
        have HVv := Lib.hid hv
        have hq := fun W => ndEq W x (Nd.mk x.kind noSt x.a x.b false) v hv
        clear hv
        cases v
        · go_quiet (fail)
          obtain ⟨z0, z1, z2, z3, z4, z5, z6, z7⟩ := Nd.cells HZ.out
          have f1 := HZ.out.free 1
          have f2 := HZ.out.free 2
          have f3 := HZ.out.free 3
          have f4 := HZ.out.free 4
          have f5 := HZ.out.free 5
          have f6 := HZ.out.free 6
          have f7 := HZ.out.free 7
          go_wp2_with (first
            | (with_reducible show wpList _ _ _ ({ dst := _, op := .load 34 (.tmp 2), type := _, pos := _, after := _, guard := _ } :: _) _ _
               refine wpList_load_row_want (by rfl) 34 _ rfl w.heap.size rfl 34 x.cs.toArray (0, 0) _ (At.other (At.other (HA.out.drewN nq) (ne_succ w.heap.size) _) (ne_succ w.heap.size) _) Try.underlying34 rfl (by kernel_rfl) ?_)
            | (with_reducible show wpList _ _ _ ({ dst := _, op := .load 34 (.tmp 5), type := _, pos := _, after := _, guard := _ } :: _) _ _
               refine wpList_load_row_want (by rfl) 34 _ rfl (w.heap.size + 1) rfl 34 (Nd.mk x.kind noSt x.a x.b false).cs.toArray (0, 0) _ (At.set (At.set (HZ.out.drewN nq) 5 _) 6 _) Try.underlying34 rfl (by kernel_rfl) ?_)
            | fail)
          go_region
          go_wp2_with (first
            | (with_reducible show wpList _ _ _ ({ dst := _, op := .load 34 (.tmp 2), type := _, pos := _, after := _, guard := _ } :: _) _ _
               refine wpList_load_row_want (by rfl) 34 _ rfl w.heap.size rfl 34 x.cs.toArray (0, 0) _ (At.other (At.other (HA.out.drewN (nq + 1)) (ne_succ w.heap.size) _) (ne_succ w.heap.size) _) Try.underlying34 rfl (by kernel_rfl) ?_)
            | (with_reducible show wpList _ _ _ ({ dst := _, op := .load 34 (.tmp 5), type := _, pos := _, after := _, guard := _ } :: _) _ _
               refine wpList_load_row_want (by rfl) 34 _ rfl (w.heap.size + 1) rfl 34 (Nd.mk x.kind noSt x.a x.b false).cs.toArray (0, 0) _ (At.set (At.set (HZ.out.drewN (nq + 1)) 5 _) 6 _) Try.underlying34 rfl (by kernel_rfl) ?_)
            | fail)
          go_ret
          exact ⟨by rw [HV.out, HVv.out]; rfl, (Below.setCell (Below.setCell (below_drewN' HB.out _) (Nat.le_succ _) _) (Nat.le_succ _) _)⟩
        · go_quiet (fail)
          obtain ⟨z0, z1, z2, z3, z4, z5, z6, z7⟩ := Nd.cells HZ.out
          have f1 := HZ.out.free 1
          have f2 := HZ.out.free 2
          have f3 := HZ.out.free 3
          have f4 := HZ.out.free 4
          have f5 := HZ.out.free 5
          have f6 := HZ.out.free 6
          have f7 := HZ.out.free 7
          go_wp2_with (first
            | (with_reducible show wpList _ _ _ ({ dst := _, op := .load 34 (.tmp 2), type := _, pos := _, after := _, guard := _ } :: _) _ _
               refine wpList_load_row_want (by rfl) 34 _ rfl w.heap.size rfl 34 x.cs.toArray (0, 0) _ (At.other (At.other (HA.out.drewN nq) (ne_succ w.heap.size) _) (ne_succ w.heap.size) _) Try.underlying34 rfl (by kernel_rfl) ?_)
            | (with_reducible show wpList _ _ _ ({ dst := _, op := .load 34 (.tmp 5), type := _, pos := _, after := _, guard := _ } :: _) _ _
               refine wpList_load_row_want (by rfl) 34 _ rfl (w.heap.size + 1) rfl 34 (Nd.mk x.kind noSt x.a x.b false).cs.toArray (0, 0) _ (At.set (At.set (HZ.out.drewN nq) 5 _) 6 _) Try.underlying34 rfl (by kernel_rfl) ?_)
            | fail)
          go_region
          go_wp2_with (first
            | (with_reducible show wpList _ _ _ ({ dst := _, op := .load 34 (.tmp 2), type := _, pos := _, after := _, guard := _ } :: _) _ _
               refine wpList_load_row_want (by rfl) 34 _ rfl w.heap.size rfl 34 x.cs.toArray (0, 0) _ (At.other (At.other (HA.out.drewN (nq + 1)) (ne_succ w.heap.size) _) (ne_succ w.heap.size) _) Try.underlying34 rfl (by kernel_rfl) ?_)
            | (with_reducible show wpList _ _ _ ({ dst := _, op := .load 34 (.tmp 5), type := _, pos := _, after := _, guard := _ } :: _) _ _
               refine wpList_load_row_want (by rfl) 34 _ rfl (w.heap.size + 1) rfl 34 (Nd.mk x.kind noSt x.a x.b false).cs.toArray (0, 0) _ (At.set (At.set (HZ.out.drewN (nq + 1)) 5 _) 6 _) Try.underlying34 rfl (by kernel_rfl) ?_)
            | fail)
          go_ret
          exact ⟨by rw [HV.out, HVv.out]; rfl, (Below.setCell (Below.setCell (below_drewN' HB.out _) (Nat.le_succ _) _) (Nat.le_succ _) _)⟩
      by_cases hk6 : x.kind = 6
      · have HKd := Lib.hid hk6
        rw [hk6] at c0
        clear hk6
        have HV : Hid (x.right n = (x.eqb (Nd.mk x.kind noSt x.a 0 false) && false)) := Lib.hid (by unfold Nd.right aIn; rw [ha1, decide_eq_true hb0]; simp [HKd.out])
        obtain ⟨v, hv⟩ : ∃ v, x.eqb (Nd.mk x.kind noSt x.a 0 false) = v := ⟨_, rfl⟩
        have HVv := Lib.hid hv
        have hq := fun W => ndEq W x (Nd.mk x.kind noSt x.a 0 false) v hv
        clear hv
        cases v
        · go_quiet (fail)
          obtain ⟨z0, z1, z2, z3, z4, z5, z6, z7⟩ := Nd.cells HZ.out
          have f1 := HZ.out.free 1
          have f2 := HZ.out.free 2
          have f3 := HZ.out.free 3
          have f4 := HZ.out.free 4
          have f5 := HZ.out.free 5
          have f6 := HZ.out.free 6
          have f7 := HZ.out.free 7
          go_wp2_with (first
            | (with_reducible show wpList _ _ _ ({ dst := _, op := .load 34 (.tmp 2), type := _, pos := _, after := _, guard := _ } :: _) _ _
               refine wpList_load_row_want (by rfl) 34 _ rfl w.heap.size rfl 34 x.cs.toArray (0, 0) _ (At.other (HA.out.drewN nq) (ne_succ w.heap.size) _) Try.underlying34 rfl (by kernel_rfl) ?_)
            | (with_reducible show wpList _ _ _ ({ dst := _, op := .load 34 (.tmp 5), type := _, pos := _, after := _, guard := _ } :: _) _ _
               refine wpList_load_row_want (by rfl) 34 _ rfl (w.heap.size + 1) rfl 34 (Nd.mk x.kind noSt x.a 0 false).cs.toArray (0, 0) _ (At.set (HZ.out.drewN nq) 5 _) Try.underlying34 rfl (by kernel_rfl) ?_)
            | fail)
          go_ret
          exact ⟨by rw [HV.out, HVv.out]; rfl, (Below.setCell (below_drewN' HB.out _) (Nat.le_succ _) _)⟩
        · go_quiet (fail)
          obtain ⟨z0, z1, z2, z3, z4, z5, z6, z7⟩ := Nd.cells HZ.out
          have f1 := HZ.out.free 1
          have f2 := HZ.out.free 2
          have f3 := HZ.out.free 3
          have f4 := HZ.out.free 4
          have f5 := HZ.out.free 5
          have f6 := HZ.out.free 6
          have f7 := HZ.out.free 7
          go_wp2_with (first
            | (with_reducible show wpList _ _ _ ({ dst := _, op := .load 34 (.tmp 2), type := _, pos := _, after := _, guard := _ } :: _) _ _
               refine wpList_load_row_want (by rfl) 34 _ rfl w.heap.size rfl 34 x.cs.toArray (0, 0) _ (At.other (HA.out.drewN nq) (ne_succ w.heap.size) _) Try.underlying34 rfl (by kernel_rfl) ?_)
            | (with_reducible show wpList _ _ _ ({ dst := _, op := .load 34 (.tmp 5), type := _, pos := _, after := _, guard := _ } :: _) _ _
               refine wpList_load_row_want (by rfl) 34 _ rfl (w.heap.size + 1) rfl 34 (Nd.mk x.kind noSt x.a 0 false).cs.toArray (0, 0) _ (At.set (HZ.out.drewN nq) 5 _) Try.underlying34 rfl (by kernel_rfl) ?_)
            | fail)
          go_ret
          exact ⟨by rw [HV.out, HVv.out]; rfl, (Below.setCell (below_drewN' HB.out _) (Nat.le_succ _) _)⟩
      by_cases hk7 : x.kind = 7
      · have HKd := Lib.hid hk7
        rw [hk7] at c0
        clear hk7
        have HV : Hid (x.right n = (x.eqb (Nd.mk x.kind noSt x.a 0 false) && false)) := Lib.hid (by unfold Nd.right aIn; rw [ha1, decide_eq_true hb0]; simp [HKd.out])
        obtain ⟨v, hv⟩ : ∃ v, x.eqb (Nd.mk x.kind noSt x.a 0 false) = v := ⟨_, rfl⟩
        have HVv := Lib.hid hv
        have hq := fun W => ndEq W x (Nd.mk x.kind noSt x.a 0 false) v hv
        clear hv
        cases v
        · go_quiet (fail)
          obtain ⟨z0, z1, z2, z3, z4, z5, z6, z7⟩ := Nd.cells HZ.out
          have f1 := HZ.out.free 1
          have f2 := HZ.out.free 2
          have f3 := HZ.out.free 3
          have f4 := HZ.out.free 4
          have f5 := HZ.out.free 5
          have f6 := HZ.out.free 6
          have f7 := HZ.out.free 7
          go_wp2_with (first
            | (with_reducible show wpList _ _ _ ({ dst := _, op := .load 34 (.tmp 2), type := _, pos := _, after := _, guard := _ } :: _) _ _
               refine wpList_load_row_want (by rfl) 34 _ rfl w.heap.size rfl 34 x.cs.toArray (0, 0) _ (At.other (HA.out.drewN nq) (ne_succ w.heap.size) _) Try.underlying34 rfl (by kernel_rfl) ?_)
            | (with_reducible show wpList _ _ _ ({ dst := _, op := .load 34 (.tmp 5), type := _, pos := _, after := _, guard := _ } :: _) _ _
               refine wpList_load_row_want (by rfl) 34 _ rfl (w.heap.size + 1) rfl 34 (Nd.mk x.kind noSt x.a 0 false).cs.toArray (0, 0) _ (At.set (HZ.out.drewN nq) 5 _) Try.underlying34 rfl (by kernel_rfl) ?_)
            | fail)
          go_ret
          exact ⟨by rw [HV.out, HVv.out]; rfl, (Below.setCell (below_drewN' HB.out _) (Nat.le_succ _) _)⟩
        · go_quiet (fail)
          obtain ⟨z0, z1, z2, z3, z4, z5, z6, z7⟩ := Nd.cells HZ.out
          have f1 := HZ.out.free 1
          have f2 := HZ.out.free 2
          have f3 := HZ.out.free 3
          have f4 := HZ.out.free 4
          have f5 := HZ.out.free 5
          have f6 := HZ.out.free 6
          have f7 := HZ.out.free 7
          go_wp2_with (first
            | (with_reducible show wpList _ _ _ ({ dst := _, op := .load 34 (.tmp 2), type := _, pos := _, after := _, guard := _ } :: _) _ _
               refine wpList_load_row_want (by rfl) 34 _ rfl w.heap.size rfl 34 x.cs.toArray (0, 0) _ (At.other (HA.out.drewN nq) (ne_succ w.heap.size) _) Try.underlying34 rfl (by kernel_rfl) ?_)
            | (with_reducible show wpList _ _ _ ({ dst := _, op := .load 34 (.tmp 5), type := _, pos := _, after := _, guard := _ } :: _) _ _
               refine wpList_load_row_want (by rfl) 34 _ rfl (w.heap.size + 1) rfl 34 (Nd.mk x.kind noSt x.a 0 false).cs.toArray (0, 0) _ (At.set (HZ.out.drewN nq) 5 _) Try.underlying34 rfl (by kernel_rfl) ?_)
            | fail)
          go_ret
          exact ⟨by rw [HV.out, HVv.out]; rfl, (Below.setCell (below_drewN' HB.out _) (Nat.le_succ _) _)⟩
      by_cases hk8 : x.kind = 8
      · have HKd := Lib.hid hk8
        rw [hk8] at c0
        clear hk8
        have HV : Hid (x.right n = (x.eqb (Nd.mk x.kind noSt x.a 0 x.neg) && false)) := Lib.hid (by unfold Nd.right aIn; rw [ha1, decide_eq_true hb0]; simp [HKd.out])
        obtain ⟨v, hv⟩ : ∃ v, x.eqb (Nd.mk x.kind noSt x.a 0 x.neg) = v := ⟨_, rfl⟩
        have HVv := Lib.hid hv
        have hq := fun W => ndEq W x (Nd.mk x.kind noSt x.a 0 x.neg) v hv
        clear hv
        cases v
        · go_quiet (fail)
          obtain ⟨z0, z1, z2, z3, z4, z5, z6, z7⟩ := Nd.cells HZ.out
          have f1 := HZ.out.free 1
          have f2 := HZ.out.free 2
          have f3 := HZ.out.free 3
          have f4 := HZ.out.free 4
          have f5 := HZ.out.free 5
          have f6 := HZ.out.free 6
          have f7 := HZ.out.free 7
          go_wp2_with (first
            | (with_reducible show wpList _ _ _ ({ dst := _, op := .load 34 (.tmp 2), type := _, pos := _, after := _, guard := _ } :: _) _ _
               refine wpList_load_row_want (by rfl) 34 _ rfl w.heap.size rfl 34 x.cs.toArray (0, 0) _ (At.other (At.other (HA.out.drewN nq) (ne_succ w.heap.size) _) (ne_succ w.heap.size) _) Try.underlying34 rfl (by kernel_rfl) ?_)
            | (with_reducible show wpList _ _ _ ({ dst := _, op := .load 34 (.tmp 5), type := _, pos := _, after := _, guard := _ } :: _) _ _
               refine wpList_load_row_want (by rfl) 34 _ rfl (w.heap.size + 1) rfl 34 (Nd.mk x.kind noSt x.a 0 x.neg).cs.toArray (0, 0) _ (At.set (At.set (HZ.out.drewN nq) 5 _) 7 _) Try.underlying34 rfl (by kernel_rfl) ?_)
            | fail)
          go_region
          go_wp2_with (first
            | (with_reducible show wpList _ _ _ ({ dst := _, op := .load 34 (.tmp 2), type := _, pos := _, after := _, guard := _ } :: _) _ _
               refine wpList_load_row_want (by rfl) 34 _ rfl w.heap.size rfl 34 x.cs.toArray (0, 0) _ (At.other (At.other (HA.out.drewN (nq + 1)) (ne_succ w.heap.size) _) (ne_succ w.heap.size) _) Try.underlying34 rfl (by kernel_rfl) ?_)
            | (with_reducible show wpList _ _ _ ({ dst := _, op := .load 34 (.tmp 5), type := _, pos := _, after := _, guard := _ } :: _) _ _
               refine wpList_load_row_want (by rfl) 34 _ rfl (w.heap.size + 1) rfl 34 (Nd.mk x.kind noSt x.a 0 x.neg).cs.toArray (0, 0) _ (At.set (At.set (HZ.out.drewN (nq + 1)) 5 _) 7 _) Try.underlying34 rfl (by kernel_rfl) ?_)
            | fail)
          go_ret
          exact ⟨by rw [HV.out, HVv.out]; rfl, (Below.setCell (Below.setCell (below_drewN' HB.out _) (Nat.le_succ _) _) (Nat.le_succ _) _)⟩
        · go_quiet (fail)
          obtain ⟨z0, z1, z2, z3, z4, z5, z6, z7⟩ := Nd.cells HZ.out
          have f1 := HZ.out.free 1
          have f2 := HZ.out.free 2
          have f3 := HZ.out.free 3
          have f4 := HZ.out.free 4
          have f5 := HZ.out.free 5
          have f6 := HZ.out.free 6
          have f7 := HZ.out.free 7
          go_wp2_with (first
            | (with_reducible show wpList _ _ _ ({ dst := _, op := .load 34 (.tmp 2), type := _, pos := _, after := _, guard := _ } :: _) _ _
               refine wpList_load_row_want (by rfl) 34 _ rfl w.heap.size rfl 34 x.cs.toArray (0, 0) _ (At.other (At.other (HA.out.drewN nq) (ne_succ w.heap.size) _) (ne_succ w.heap.size) _) Try.underlying34 rfl (by kernel_rfl) ?_)
            | (with_reducible show wpList _ _ _ ({ dst := _, op := .load 34 (.tmp 5), type := _, pos := _, after := _, guard := _ } :: _) _ _
               refine wpList_load_row_want (by rfl) 34 _ rfl (w.heap.size + 1) rfl 34 (Nd.mk x.kind noSt x.a 0 x.neg).cs.toArray (0, 0) _ (At.set (At.set (HZ.out.drewN nq) 5 _) 7 _) Try.underlying34 rfl (by kernel_rfl) ?_)
            | fail)
          go_region
          go_wp2_with (first
            | (with_reducible show wpList _ _ _ ({ dst := _, op := .load 34 (.tmp 2), type := _, pos := _, after := _, guard := _ } :: _) _ _
               refine wpList_load_row_want (by rfl) 34 _ rfl w.heap.size rfl 34 x.cs.toArray (0, 0) _ (At.other (At.other (HA.out.drewN (nq + 1)) (ne_succ w.heap.size) _) (ne_succ w.heap.size) _) Try.underlying34 rfl (by kernel_rfl) ?_)
            | (with_reducible show wpList _ _ _ ({ dst := _, op := .load 34 (.tmp 5), type := _, pos := _, after := _, guard := _ } :: _) _ _
               refine wpList_load_row_want (by rfl) 34 _ rfl (w.heap.size + 1) rfl 34 (Nd.mk x.kind noSt x.a 0 x.neg).cs.toArray (0, 0) _ (At.set (At.set (HZ.out.drewN (nq + 1)) 5 _) 7 _) Try.underlying34 rfl (by kernel_rfl) ?_)
            | fail)
          go_ret
          exact ⟨by rw [HV.out, HVv.out]; rfl, (Below.setCell (Below.setCell (below_drewN' HB.out _) (Nat.le_succ _) _) (Nat.le_succ _) _)⟩
      have hb0 := (int_ne hk0).1
      have h0 := Lib.hid hk0
      have hb1 := (int_ne hk1).1
      have h1 := Lib.hid hk1
      have hb2 := (int_ne hk2).1
      have h2 := Lib.hid hk2
      have hb3 := (int_ne hk3).1
      have h3 := Lib.hid hk3
      have hb4 := (int_ne hk4).1
      have h4 := Lib.hid hk4
      have hb5 := (int_ne hk5).1
      have h5 := Lib.hid hk5
      have hb6 := (int_ne hk6).1
      have h6 := Lib.hid hk6
      have hb7 := (int_ne hk7).1
      have h7 := Lib.hid hk7
      have hb8 := (int_ne hk8).1
      have h8 := Lib.hid hk8
      clear hk0 hk1 hk2 hk3 hk4 hk5 hk6 hk7 hk8
      have HV : Hid (x.right n = false) := Lib.hid (by unfold Nd.right; simp [h0.out, h1.out, h2.out, h3.out, h4.out, h5.out, h6.out, h7.out, h8.out])
      go_quiet (fail)
      go_wp2_with fail
      go_ret
      exact ⟨by rw [HV.out]; rfl, (below_drewN' HB.out _)⟩
    · have hb1 : decide ((0 : Int) ≤ x.b) = false := decide_eq_false hb0
      obtain ⟨c0, c1, c2, c3, c4, c5, c6, c7⟩ := Nd.cells HA.out
      by_cases hk0 : x.kind = 0
      · have HKd := Lib.hid hk0
        rw [hk0] at c0
        clear hk0
        have HV : Hid (x.right n = x.eqb x.bare) := Lib.hid (by unfold Nd.right; simp [HKd.out])
        obtain ⟨v, hv⟩ : ∃ v, x.eqb x.bare = v := ⟨_, rfl⟩
        have HVv := Lib.hid hv
        have hq := fun W => ndEq W x x.bare v hv
        clear hv
        go_quiet (fail)
        go_wp2_with (first
          | (with_reducible show wpList _ _ _ ({ dst := _, op := .load 34 (.tmp 2), type := _, pos := _, after := _, guard := _ } :: _) _ _
             refine wpList_load_row_want (by rfl) 34 _ rfl w.heap.size rfl 34 x.cs.toArray (0, 0) _ (HA.out.drewN nq) Try.underlying34 rfl (by kernel_rfl) ?_)
          | (with_reducible show wpList _ _ _ ({ dst := _, op := .load 34 (.tmp 5), type := _, pos := _, after := _, guard := _ } :: _) _ _
             refine wpList_load_row_want (by rfl) 34 _ rfl (w.heap.size + 1) rfl 34 x.bare.cs.toArray (0, 0) _ (HZ.out.drewN nq) Try.underlying34 rfl (by kernel_rfl) ?_)
          | fail)
        go_ret
        exact ⟨by rw [HV.out, HVv.out]; rfl, (below_drewN' HB.out _)⟩
      by_cases hk1 : x.kind = 1
      · have HKd := Lib.hid hk1
        rw [hk1] at c0
        clear hk1
        have HV : Hid (x.right n = x.eqb x.bare) := Lib.hid (by unfold Nd.right; simp [HKd.out])
        obtain ⟨v, hv⟩ : ∃ v, x.eqb x.bare = v := ⟨_, rfl⟩
        have HVv := Lib.hid hv
        have hq := fun W => ndEq W x x.bare v hv
        clear hv
        go_quiet (fail)
        go_wp2_with (first
          | (with_reducible show wpList _ _ _ ({ dst := _, op := .load 34 (.tmp 2), type := _, pos := _, after := _, guard := _ } :: _) _ _
             refine wpList_load_row_want (by rfl) 34 _ rfl w.heap.size rfl 34 x.cs.toArray (0, 0) _ (HA.out.drewN nq) Try.underlying34 rfl (by kernel_rfl) ?_)
          | (with_reducible show wpList _ _ _ ({ dst := _, op := .load 34 (.tmp 5), type := _, pos := _, after := _, guard := _ } :: _) _ _
             refine wpList_load_row_want (by rfl) 34 _ rfl (w.heap.size + 1) rfl 34 x.bare.cs.toArray (0, 0) _ (HZ.out.drewN nq) Try.underlying34 rfl (by kernel_rfl) ?_)
          | fail)
        go_ret
        exact ⟨by rw [HV.out, HVv.out]; rfl, (below_drewN' HB.out _)⟩
      by_cases hk2 : x.kind = 2
      · have HKd := Lib.hid hk2
        rw [hk2] at c0
        clear hk2
        have HV : Hid (x.right n = x.eqb (Nd.mk x.kind x.set 0 0 false)) := Lib.hid (by unfold Nd.right aIn; rw [ha1, hb1]; simp [HKd.out])
        obtain ⟨v, hv⟩ : ∃ v, x.eqb (Nd.mk x.kind x.set 0 0 false) = v := ⟨_, rfl⟩
        have HVv := Lib.hid hv
        have hq := fun W => ndEq W x (Nd.mk x.kind x.set 0 0 false) v hv
        clear hv
        go_quiet (fail)
        obtain ⟨z0, z1, z2, z3, z4, z5, z6, z7⟩ := Nd.cells HZ.out
        have f1 := HZ.out.free 1
        have f2 := HZ.out.free 2
        have f3 := HZ.out.free 3
        have f4 := HZ.out.free 4
        have f5 := HZ.out.free 5
        have f6 := HZ.out.free 6
        have f7 := HZ.out.free 7
        go_wp2_with (first
          | (with_reducible show wpList _ _ _ ({ dst := _, op := .load 34 (.tmp 2), type := _, pos := _, after := _, guard := _ } :: _) _ _
             refine wpList_load_row_want (by rfl) 34 _ rfl w.heap.size rfl 34 x.cs.toArray (0, 0) _ (At.other (At.other (At.other (At.other (HA.out.drewN nq) (ne_succ w.heap.size) _) (ne_succ w.heap.size) _) (ne_succ w.heap.size) _) (ne_succ w.heap.size) _) Try.underlying34 rfl (by kernel_rfl) ?_)
          | (with_reducible show wpList _ _ _ ({ dst := _, op := .load 34 (.tmp 5), type := _, pos := _, after := _, guard := _ } :: _) _ _
             refine wpList_load_row_want (by rfl) 34 _ rfl (w.heap.size + 1) rfl 34 (Nd.mk x.kind x.set 0 0 false).cs.toArray (0, 0) _ (At.set (At.set (At.set (At.set (HZ.out.drewN nq) 1 _) 2 _) 3 _) 4 _) Try.underlying34 rfl (by kernel_rfl) ?_)
          | fail)
        go_ret
        exact ⟨by rw [HV.out, HVv.out]; rfl, (Below.setCell (Below.setCell (Below.setCell (Below.setCell (below_drewN' HB.out _) (Nat.le_succ _) _) (Nat.le_succ _) _) (Nat.le_succ _) _) (Nat.le_succ _) _)⟩
      by_cases hk3 : x.kind = 3
      · have HKd := Lib.hid hk3
        rw [hk3] at c0
        clear hk3
        have HV : Hid (x.right n = (x.eqb (Nd.mk x.kind noSt x.a x.b false) && false && false)) := Lib.hid (by unfold Nd.right aIn; rw [ha1, hb1]; simp [HKd.out])
        obtain ⟨v, hv⟩ : ∃ v, x.eqb (Nd.mk x.kind noSt x.a x.b false) = v := ⟨_, rfl⟩
        have HVv := Lib.hid hv
        have hq := fun W => ndEq W x (Nd.mk x.kind noSt x.a x.b false) v hv
        clear hv
        cases v
        · go_quiet (fail)
          obtain ⟨z0, z1, z2, z3, z4, z5, z6, z7⟩ := Nd.cells HZ.out
          have f1 := HZ.out.free 1
          have f2 := HZ.out.free 2
          have f3 := HZ.out.free 3
          have f4 := HZ.out.free 4
          have f5 := HZ.out.free 5
          have f6 := HZ.out.free 6
          have f7 := HZ.out.free 7
          go_wp2_with (first
            | (with_reducible show wpList _ _ _ ({ dst := _, op := .load 34 (.tmp 2), type := _, pos := _, after := _, guard := _ } :: _) _ _
               refine wpList_load_row_want (by rfl) 34 _ rfl w.heap.size rfl 34 x.cs.toArray (0, 0) _ (At.other (At.other (HA.out.drewN nq) (ne_succ w.heap.size) _) (ne_succ w.heap.size) _) Try.underlying34 rfl (by kernel_rfl) ?_)
            | (with_reducible show wpList _ _ _ ({ dst := _, op := .load 34 (.tmp 5), type := _, pos := _, after := _, guard := _ } :: _) _ _
               refine wpList_load_row_want (by rfl) 34 _ rfl (w.heap.size + 1) rfl 34 (Nd.mk x.kind noSt x.a x.b false).cs.toArray (0, 0) _ (At.set (At.set (HZ.out.drewN nq) 5 _) 6 _) Try.underlying34 rfl (by kernel_rfl) ?_)
            | fail)
          go_region
          go_wp2_with (first
            | (with_reducible show wpList _ _ _ ({ dst := _, op := .load 34 (.tmp 2), type := _, pos := _, after := _, guard := _ } :: _) _ _
               refine wpList_load_row_want (by rfl) 34 _ rfl w.heap.size rfl 34 x.cs.toArray (0, 0) _ (At.other (At.other (HA.out.drewN (nq + 1)) (ne_succ w.heap.size) _) (ne_succ w.heap.size) _) Try.underlying34 rfl (by kernel_rfl) ?_)
            | (with_reducible show wpList _ _ _ ({ dst := _, op := .load 34 (.tmp 5), type := _, pos := _, after := _, guard := _ } :: _) _ _
               refine wpList_load_row_want (by rfl) 34 _ rfl (w.heap.size + 1) rfl 34 (Nd.mk x.kind noSt x.a x.b false).cs.toArray (0, 0) _ (At.set (At.set (HZ.out.drewN (nq + 1)) 5 _) 6 _) Try.underlying34 rfl (by kernel_rfl) ?_)
            | fail)
          go_ret
          exact ⟨by rw [HV.out, HVv.out]; rfl, (Below.setCell (Below.setCell (below_drewN' HB.out _) (Nat.le_succ _) _) (Nat.le_succ _) _)⟩
        · go_quiet (fail)
          obtain ⟨z0, z1, z2, z3, z4, z5, z6, z7⟩ := Nd.cells HZ.out
          have f1 := HZ.out.free 1
          have f2 := HZ.out.free 2
          have f3 := HZ.out.free 3
          have f4 := HZ.out.free 4
          have f5 := HZ.out.free 5
          have f6 := HZ.out.free 6
          have f7 := HZ.out.free 7
          go_wp2_with (first
            | (with_reducible show wpList _ _ _ ({ dst := _, op := .load 34 (.tmp 2), type := _, pos := _, after := _, guard := _ } :: _) _ _
               refine wpList_load_row_want (by rfl) 34 _ rfl w.heap.size rfl 34 x.cs.toArray (0, 0) _ (At.other (At.other (HA.out.drewN nq) (ne_succ w.heap.size) _) (ne_succ w.heap.size) _) Try.underlying34 rfl (by kernel_rfl) ?_)
            | (with_reducible show wpList _ _ _ ({ dst := _, op := .load 34 (.tmp 5), type := _, pos := _, after := _, guard := _ } :: _) _ _
               refine wpList_load_row_want (by rfl) 34 _ rfl (w.heap.size + 1) rfl 34 (Nd.mk x.kind noSt x.a x.b false).cs.toArray (0, 0) _ (At.set (At.set (HZ.out.drewN nq) 5 _) 6 _) Try.underlying34 rfl (by kernel_rfl) ?_)
            | fail)
          go_region
          go_wp2_with (first
            | (with_reducible show wpList _ _ _ ({ dst := _, op := .load 34 (.tmp 2), type := _, pos := _, after := _, guard := _ } :: _) _ _
               refine wpList_load_row_want (by rfl) 34 _ rfl w.heap.size rfl 34 x.cs.toArray (0, 0) _ (At.other (At.other (HA.out.drewN (nq + 1)) (ne_succ w.heap.size) _) (ne_succ w.heap.size) _) Try.underlying34 rfl (by kernel_rfl) ?_)
            | (with_reducible show wpList _ _ _ ({ dst := _, op := .load 34 (.tmp 5), type := _, pos := _, after := _, guard := _ } :: _) _ _
               refine wpList_load_row_want (by rfl) 34 _ rfl (w.heap.size + 1) rfl 34 (Nd.mk x.kind noSt x.a x.b false).cs.toArray (0, 0) _ (At.set (At.set (HZ.out.drewN (nq + 1)) 5 _) 6 _) Try.underlying34 rfl (by kernel_rfl) ?_)
            | fail)
          go_ret
          exact ⟨by rw [HV.out, HVv.out]; rfl, (Below.setCell (Below.setCell (below_drewN' HB.out _) (Nat.le_succ _) _) (Nat.le_succ _) _)⟩
      by_cases hk4 : x.kind = 4
      · have HKd := Lib.hid hk4
        rw [hk4] at c0
        clear hk4
        have HV : Hid (x.right n = (x.eqb (Nd.mk x.kind noSt x.a x.b false) && false && false)) := Lib.hid (by unfold Nd.right aIn; rw [ha1, hb1]; simp [HKd.out])
        obtain ⟨v, hv⟩ : ∃ v, x.eqb (Nd.mk x.kind noSt x.a x.b false) = v := ⟨_, rfl⟩
        have HVv := Lib.hid hv
        have hq := fun W => ndEq W x (Nd.mk x.kind noSt x.a x.b false) v hv
        clear hv
        cases v
        · go_quiet (fail)
          obtain ⟨z0, z1, z2, z3, z4, z5, z6, z7⟩ := Nd.cells HZ.out
          have f1 := HZ.out.free 1
          have f2 := HZ.out.free 2
          have f3 := HZ.out.free 3
          have f4 := HZ.out.free 4
          have f5 := HZ.out.free 5
          have f6 := HZ.out.free 6
          have f7 := HZ.out.free 7
          go_wp2_with (first
            | (with_reducible show wpList _ _ _ ({ dst := _, op := .load 34 (.tmp 2), type := _, pos := _, after := _, guard := _ } :: _) _ _
               refine wpList_load_row_want (by rfl) 34 _ rfl w.heap.size rfl 34 x.cs.toArray (0, 0) _ (At.other (At.other (HA.out.drewN nq) (ne_succ w.heap.size) _) (ne_succ w.heap.size) _) Try.underlying34 rfl (by kernel_rfl) ?_)
            | (with_reducible show wpList _ _ _ ({ dst := _, op := .load 34 (.tmp 5), type := _, pos := _, after := _, guard := _ } :: _) _ _
               refine wpList_load_row_want (by rfl) 34 _ rfl (w.heap.size + 1) rfl 34 (Nd.mk x.kind noSt x.a x.b false).cs.toArray (0, 0) _ (At.set (At.set (HZ.out.drewN nq) 5 _) 6 _) Try.underlying34 rfl (by kernel_rfl) ?_)
            | fail)
          go_region
          go_wp2_with (first
            | (with_reducible show wpList _ _ _ ({ dst := _, op := .load 34 (.tmp 2), type := _, pos := _, after := _, guard := _ } :: _) _ _
               refine wpList_load_row_want (by rfl) 34 _ rfl w.heap.size rfl 34 x.cs.toArray (0, 0) _ (At.other (At.other (HA.out.drewN (nq + 1)) (ne_succ w.heap.size) _) (ne_succ w.heap.size) _) Try.underlying34 rfl (by kernel_rfl) ?_)
            | (with_reducible show wpList _ _ _ ({ dst := _, op := .load 34 (.tmp 5), type := _, pos := _, after := _, guard := _ } :: _) _ _
               refine wpList_load_row_want (by rfl) 34 _ rfl (w.heap.size + 1) rfl 34 (Nd.mk x.kind noSt x.a x.b false).cs.toArray (0, 0) _ (At.set (At.set (HZ.out.drewN (nq + 1)) 5 _) 6 _) Try.underlying34 rfl (by kernel_rfl) ?_)
            | fail)
          go_ret
          exact ⟨by rw [HV.out, HVv.out]; rfl, (Below.setCell (Below.setCell (below_drewN' HB.out _) (Nat.le_succ _) _) (Nat.le_succ _) _)⟩
        · go_quiet (fail)
          obtain ⟨z0, z1, z2, z3, z4, z5, z6, z7⟩ := Nd.cells HZ.out
          have f1 := HZ.out.free 1
          have f2 := HZ.out.free 2
          have f3 := HZ.out.free 3
          have f4 := HZ.out.free 4
          have f5 := HZ.out.free 5
          have f6 := HZ.out.free 6
          have f7 := HZ.out.free 7
          go_wp2_with (first
            | (with_reducible show wpList _ _ _ ({ dst := _, op := .load 34 (.tmp 2), type := _, pos := _, after := _, guard := _ } :: _) _ _
               refine wpList_load_row_want (by rfl) 34 _ rfl w.heap.size rfl 34 x.cs.toArray (0, 0) _ (At.other (At.other (HA.out.drewN nq) (ne_succ w.heap.size) _) (ne_succ w.heap.size) _) Try.underlying34 rfl (by kernel_rfl) ?_)
            | (with_reducible show wpList _ _ _ ({ dst := _, op := .load 34 (.tmp 5), type := _, pos := _, after := _, guard := _ } :: _) _ _
               refine wpList_load_row_want (by rfl) 34 _ rfl (w.heap.size + 1) rfl 34 (Nd.mk x.kind noSt x.a x.b false).cs.toArray (0, 0) _ (At.set (At.set (HZ.out.drewN nq) 5 _) 6 _) Try.underlying34 rfl (by kernel_rfl) ?_)
            | fail)
          go_region
          go_wp2_with (first
            | (with_reducible show wpList _ _ _ ({ dst := _, op := .load 34 (.tmp 2), type := _, pos := _, after := _, guard := _ } :: _) _ _
               refine wpList_load_row_want (by rfl) 34 _ rfl w.heap.size rfl 34 x.cs.toArray (0, 0) _ (At.other (At.other (HA.out.drewN (nq + 1)) (ne_succ w.heap.size) _) (ne_succ w.heap.size) _) Try.underlying34 rfl (by kernel_rfl) ?_)
            | (with_reducible show wpList _ _ _ ({ dst := _, op := .load 34 (.tmp 5), type := _, pos := _, after := _, guard := _ } :: _) _ _
               refine wpList_load_row_want (by rfl) 34 _ rfl (w.heap.size + 1) rfl 34 (Nd.mk x.kind noSt x.a x.b false).cs.toArray (0, 0) _ (At.set (At.set (HZ.out.drewN (nq + 1)) 5 _) 6 _) Try.underlying34 rfl (by kernel_rfl) ?_)
            | fail)
          go_ret
          exact ⟨by rw [HV.out, HVv.out]; rfl, (Below.setCell (Below.setCell (below_drewN' HB.out _) (Nat.le_succ _) _) (Nat.le_succ _) _)⟩
      by_cases hk5 : x.kind = 5
      · have HKd := Lib.hid hk5
        rw [hk5] at c0
        clear hk5
        have HV : Hid (x.right n = (x.eqb (Nd.mk x.kind noSt x.a x.b false) && false && false)) := Lib.hid (by unfold Nd.right aIn; rw [ha1, hb1]; simp [HKd.out])
        obtain ⟨v, hv⟩ : ∃ v, x.eqb (Nd.mk x.kind noSt x.a x.b false) = v := ⟨_, rfl⟩
        have HVv := Lib.hid hv
        have hq := fun W => ndEq W x (Nd.mk x.kind noSt x.a x.b false) v hv
        clear hv
        cases v
        · go_quiet (fail)
          obtain ⟨z0, z1, z2, z3, z4, z5, z6, z7⟩ := Nd.cells HZ.out
          have f1 := HZ.out.free 1
          have f2 := HZ.out.free 2
          have f3 := HZ.out.free 3
          have f4 := HZ.out.free 4
          have f5 := HZ.out.free 5
          have f6 := HZ.out.free 6
          have f7 := HZ.out.free 7
          go_wp2_with (first
            | (with_reducible show wpList _ _ _ ({ dst := _, op := .load 34 (.tmp 2), type := _, pos := _, after := _, guard := _ } :: _) _ _
               refine wpList_load_row_want (by rfl) 34 _ rfl w.heap.size rfl 34 x.cs.toArray (0, 0) _ (At.other (At.other (HA.out.drewN nq) (ne_succ w.heap.size) _) (ne_succ w.heap.size) _) Try.underlying34 rfl (by kernel_rfl) ?_)
            | (with_reducible show wpList _ _ _ ({ dst := _, op := .load 34 (.tmp 5), type := _, pos := _, after := _, guard := _ } :: _) _ _
               refine wpList_load_row_want (by rfl) 34 _ rfl (w.heap.size + 1) rfl 34 (Nd.mk x.kind noSt x.a x.b false).cs.toArray (0, 0) _ (At.set (At.set (HZ.out.drewN nq) 5 _) 6 _) Try.underlying34 rfl (by kernel_rfl) ?_)
            | fail)
          go_region
          go_wp2_with (first
            | (with_reducible show wpList _ _ _ ({ dst := _, op := .load 34 (.tmp 2), type := _, pos := _, after := _, guard := _ } :: _) _ _
               refine wpList_load_row_want (by rfl) 34 _ rfl w.heap.size rfl 34 x.cs.toArray (0, 0) _ (At.other (At.other (HA.out.drewN (nq + 1)) (ne_succ w.heap.size) _) (ne_succ w.heap.size) _) Try.underlying34 rfl (by kernel_rfl) ?_)
            | (with_reducible show wpList _ _ _ ({ dst := _, op := .load 34 (.tmp 5), type := _, pos := _, after := _, guard := _ } :: _) _ _
               refine wpList_load_row_want (by rfl) 34 _ rfl (w.heap.size + 1) rfl 34 (Nd.mk x.kind noSt x.a x.b false).cs.toArray (0, 0) _ (At.set (At.set (HZ.out.drewN (nq + 1)) 5 _) 6 _) Try.underlying34 rfl (by kernel_rfl) ?_)
            | fail)
          go_ret
          exact ⟨by rw [HV.out, HVv.out]; rfl, (Below.setCell (Below.setCell (below_drewN' HB.out _) (Nat.le_succ _) _) (Nat.le_succ _) _)⟩
        · go_quiet (fail)
          obtain ⟨z0, z1, z2, z3, z4, z5, z6, z7⟩ := Nd.cells HZ.out
          have f1 := HZ.out.free 1
          have f2 := HZ.out.free 2
          have f3 := HZ.out.free 3
          have f4 := HZ.out.free 4
          have f5 := HZ.out.free 5
          have f6 := HZ.out.free 6
          have f7 := HZ.out.free 7
          go_wp2_with (first
            | (with_reducible show wpList _ _ _ ({ dst := _, op := .load 34 (.tmp 2), type := _, pos := _, after := _, guard := _ } :: _) _ _
               refine wpList_load_row_want (by rfl) 34 _ rfl w.heap.size rfl 34 x.cs.toArray (0, 0) _ (At.other (At.other (HA.out.drewN nq) (ne_succ w.heap.size) _) (ne_succ w.heap.size) _) Try.underlying34 rfl (by kernel_rfl) ?_)
            | (with_reducible show wpList _ _ _ ({ dst := _, op := .load 34 (.tmp 5), type := _, pos := _, after := _, guard := _ } :: _) _ _
               refine wpList_load_row_want (by rfl) 34 _ rfl (w.heap.size + 1) rfl 34 (Nd.mk x.kind noSt x.a x.b false).cs.toArray (0, 0) _ (At.set (At.set (HZ.out.drewN nq) 5 _) 6 _) Try.underlying34 rfl (by kernel_rfl) ?_)
            | fail)
          go_region
          go_wp2_with (first
            | (with_reducible show wpList _ _ _ ({ dst := _, op := .load 34 (.tmp 2), type := _, pos := _, after := _, guard := _ } :: _) _ _
               refine wpList_load_row_want (by rfl) 34 _ rfl w.heap.size rfl 34 x.cs.toArray (0, 0) _ (At.other (At.other (HA.out.drewN (nq + 1)) (ne_succ w.heap.size) _) (ne_succ w.heap.size) _) Try.underlying34 rfl (by kernel_rfl) ?_)
            | (with_reducible show wpList _ _ _ ({ dst := _, op := .load 34 (.tmp 5), type := _, pos := _, after := _, guard := _ } :: _) _ _
               refine wpList_load_row_want (by rfl) 34 _ rfl (w.heap.size + 1) rfl 34 (Nd.mk x.kind noSt x.a x.b false).cs.toArray (0, 0) _ (At.set (At.set (HZ.out.drewN (nq + 1)) 5 _) 6 _) Try.underlying34 rfl (by kernel_rfl) ?_)
            | fail)
          go_ret
          exact ⟨by rw [HV.out, HVv.out]; rfl, (Below.setCell (Below.setCell (below_drewN' HB.out _) (Nat.le_succ _) _) (Nat.le_succ _) _)⟩
      by_cases hk6 : x.kind = 6
      · have HKd := Lib.hid hk6
        rw [hk6] at c0
        clear hk6
        have HV : Hid (x.right n = (x.eqb (Nd.mk x.kind noSt x.a 0 false) && false)) := Lib.hid (by unfold Nd.right aIn; rw [ha1, hb1]; simp [HKd.out])
        obtain ⟨v, hv⟩ : ∃ v, x.eqb (Nd.mk x.kind noSt x.a 0 false) = v := ⟨_, rfl⟩
        have HVv := Lib.hid hv
        have hq := fun W => ndEq W x (Nd.mk x.kind noSt x.a 0 false) v hv
        clear hv
        cases v
        · go_quiet (fail)
          obtain ⟨z0, z1, z2, z3, z4, z5, z6, z7⟩ := Nd.cells HZ.out
          have f1 := HZ.out.free 1
          have f2 := HZ.out.free 2
          have f3 := HZ.out.free 3
          have f4 := HZ.out.free 4
          have f5 := HZ.out.free 5
          have f6 := HZ.out.free 6
          have f7 := HZ.out.free 7
          go_wp2_with (first
            | (with_reducible show wpList _ _ _ ({ dst := _, op := .load 34 (.tmp 2), type := _, pos := _, after := _, guard := _ } :: _) _ _
               refine wpList_load_row_want (by rfl) 34 _ rfl w.heap.size rfl 34 x.cs.toArray (0, 0) _ (At.other (HA.out.drewN nq) (ne_succ w.heap.size) _) Try.underlying34 rfl (by kernel_rfl) ?_)
            | (with_reducible show wpList _ _ _ ({ dst := _, op := .load 34 (.tmp 5), type := _, pos := _, after := _, guard := _ } :: _) _ _
               refine wpList_load_row_want (by rfl) 34 _ rfl (w.heap.size + 1) rfl 34 (Nd.mk x.kind noSt x.a 0 false).cs.toArray (0, 0) _ (At.set (HZ.out.drewN nq) 5 _) Try.underlying34 rfl (by kernel_rfl) ?_)
            | fail)
          go_ret
          exact ⟨by rw [HV.out, HVv.out]; rfl, (Below.setCell (below_drewN' HB.out _) (Nat.le_succ _) _)⟩
        · go_quiet (fail)
          obtain ⟨z0, z1, z2, z3, z4, z5, z6, z7⟩ := Nd.cells HZ.out
          have f1 := HZ.out.free 1
          have f2 := HZ.out.free 2
          have f3 := HZ.out.free 3
          have f4 := HZ.out.free 4
          have f5 := HZ.out.free 5
          have f6 := HZ.out.free 6
          have f7 := HZ.out.free 7
          go_wp2_with (first
            | (with_reducible show wpList _ _ _ ({ dst := _, op := .load 34 (.tmp 2), type := _, pos := _, after := _, guard := _ } :: _) _ _
               refine wpList_load_row_want (by rfl) 34 _ rfl w.heap.size rfl 34 x.cs.toArray (0, 0) _ (At.other (HA.out.drewN nq) (ne_succ w.heap.size) _) Try.underlying34 rfl (by kernel_rfl) ?_)
            | (with_reducible show wpList _ _ _ ({ dst := _, op := .load 34 (.tmp 5), type := _, pos := _, after := _, guard := _ } :: _) _ _
               refine wpList_load_row_want (by rfl) 34 _ rfl (w.heap.size + 1) rfl 34 (Nd.mk x.kind noSt x.a 0 false).cs.toArray (0, 0) _ (At.set (HZ.out.drewN nq) 5 _) Try.underlying34 rfl (by kernel_rfl) ?_)
            | fail)
          go_ret
          exact ⟨by rw [HV.out, HVv.out]; rfl, (Below.setCell (below_drewN' HB.out _) (Nat.le_succ _) _)⟩
      by_cases hk7 : x.kind = 7
      · have HKd := Lib.hid hk7
        rw [hk7] at c0
        clear hk7
        have HV : Hid (x.right n = (x.eqb (Nd.mk x.kind noSt x.a 0 false) && false)) := Lib.hid (by unfold Nd.right aIn; rw [ha1, hb1]; simp [HKd.out])
        obtain ⟨v, hv⟩ : ∃ v, x.eqb (Nd.mk x.kind noSt x.a 0 false) = v := ⟨_, rfl⟩
        have HVv := Lib.hid hv
        have hq := fun W => ndEq W x (Nd.mk x.kind noSt x.a 0 false) v hv
        clear hv
        cases v
        · go_quiet (fail)
          obtain ⟨z0, z1, z2, z3, z4, z5, z6, z7⟩ := Nd.cells HZ.out
          have f1 := HZ.out.free 1
          have f2 := HZ.out.free 2
          have f3 := HZ.out.free 3
          have f4 := HZ.out.free 4
          have f5 := HZ.out.free 5
          have f6 := HZ.out.free 6
          have f7 := HZ.out.free 7
          go_wp2_with (first
            | (with_reducible show wpList _ _ _ ({ dst := _, op := .load 34 (.tmp 2), type := _, pos := _, after := _, guard := _ } :: _) _ _
               refine wpList_load_row_want (by rfl) 34 _ rfl w.heap.size rfl 34 x.cs.toArray (0, 0) _ (At.other (HA.out.drewN nq) (ne_succ w.heap.size) _) Try.underlying34 rfl (by kernel_rfl) ?_)
            | (with_reducible show wpList _ _ _ ({ dst := _, op := .load 34 (.tmp 5), type := _, pos := _, after := _, guard := _ } :: _) _ _
               refine wpList_load_row_want (by rfl) 34 _ rfl (w.heap.size + 1) rfl 34 (Nd.mk x.kind noSt x.a 0 false).cs.toArray (0, 0) _ (At.set (HZ.out.drewN nq) 5 _) Try.underlying34 rfl (by kernel_rfl) ?_)
            | fail)
          go_ret
          exact ⟨by rw [HV.out, HVv.out]; rfl, (Below.setCell (below_drewN' HB.out _) (Nat.le_succ _) _)⟩
        · go_quiet (fail)
          obtain ⟨z0, z1, z2, z3, z4, z5, z6, z7⟩ := Nd.cells HZ.out
          have f1 := HZ.out.free 1
          have f2 := HZ.out.free 2
          have f3 := HZ.out.free 3
          have f4 := HZ.out.free 4
          have f5 := HZ.out.free 5
          have f6 := HZ.out.free 6
          have f7 := HZ.out.free 7
          go_wp2_with (first
            | (with_reducible show wpList _ _ _ ({ dst := _, op := .load 34 (.tmp 2), type := _, pos := _, after := _, guard := _ } :: _) _ _
               refine wpList_load_row_want (by rfl) 34 _ rfl w.heap.size rfl 34 x.cs.toArray (0, 0) _ (At.other (HA.out.drewN nq) (ne_succ w.heap.size) _) Try.underlying34 rfl (by kernel_rfl) ?_)
            | (with_reducible show wpList _ _ _ ({ dst := _, op := .load 34 (.tmp 5), type := _, pos := _, after := _, guard := _ } :: _) _ _
               refine wpList_load_row_want (by rfl) 34 _ rfl (w.heap.size + 1) rfl 34 (Nd.mk x.kind noSt x.a 0 false).cs.toArray (0, 0) _ (At.set (HZ.out.drewN nq) 5 _) Try.underlying34 rfl (by kernel_rfl) ?_)
            | fail)
          go_ret
          exact ⟨by rw [HV.out, HVv.out]; rfl, (Below.setCell (below_drewN' HB.out _) (Nat.le_succ _) _)⟩
      by_cases hk8 : x.kind = 8
      · have HKd := Lib.hid hk8
        rw [hk8] at c0
        clear hk8
        have HV : Hid (x.right n = (x.eqb (Nd.mk x.kind noSt x.a 0 x.neg) && false)) := Lib.hid (by unfold Nd.right aIn; rw [ha1, hb1]; simp [HKd.out])
        obtain ⟨v, hv⟩ : ∃ v, x.eqb (Nd.mk x.kind noSt x.a 0 x.neg) = v := ⟨_, rfl⟩
        have HVv := Lib.hid hv
        have hq := fun W => ndEq W x (Nd.mk x.kind noSt x.a 0 x.neg) v hv
        clear hv
        cases v
        · go_quiet (fail)
          obtain ⟨z0, z1, z2, z3, z4, z5, z6, z7⟩ := Nd.cells HZ.out
          have f1 := HZ.out.free 1
          have f2 := HZ.out.free 2
          have f3 := HZ.out.free 3
          have f4 := HZ.out.free 4
          have f5 := HZ.out.free 5
          have f6 := HZ.out.free 6
          have f7 := HZ.out.free 7
          go_wp2_with (first
            | (with_reducible show wpList _ _ _ ({ dst := _, op := .load 34 (.tmp 2), type := _, pos := _, after := _, guard := _ } :: _) _ _
               refine wpList_load_row_want (by rfl) 34 _ rfl w.heap.size rfl 34 x.cs.toArray (0, 0) _ (At.other (At.other (HA.out.drewN nq) (ne_succ w.heap.size) _) (ne_succ w.heap.size) _) Try.underlying34 rfl (by kernel_rfl) ?_)
            | (with_reducible show wpList _ _ _ ({ dst := _, op := .load 34 (.tmp 5), type := _, pos := _, after := _, guard := _ } :: _) _ _
               refine wpList_load_row_want (by rfl) 34 _ rfl (w.heap.size + 1) rfl 34 (Nd.mk x.kind noSt x.a 0 x.neg).cs.toArray (0, 0) _ (At.set (At.set (HZ.out.drewN nq) 5 _) 7 _) Try.underlying34 rfl (by kernel_rfl) ?_)
            | fail)
          go_region
          go_wp2_with (first
            | (with_reducible show wpList _ _ _ ({ dst := _, op := .load 34 (.tmp 2), type := _, pos := _, after := _, guard := _ } :: _) _ _
               refine wpList_load_row_want (by rfl) 34 _ rfl w.heap.size rfl 34 x.cs.toArray (0, 0) _ (At.other (At.other (HA.out.drewN (nq + 1)) (ne_succ w.heap.size) _) (ne_succ w.heap.size) _) Try.underlying34 rfl (by kernel_rfl) ?_)
            | (with_reducible show wpList _ _ _ ({ dst := _, op := .load 34 (.tmp 5), type := _, pos := _, after := _, guard := _ } :: _) _ _
               refine wpList_load_row_want (by rfl) 34 _ rfl (w.heap.size + 1) rfl 34 (Nd.mk x.kind noSt x.a 0 x.neg).cs.toArray (0, 0) _ (At.set (At.set (HZ.out.drewN (nq + 1)) 5 _) 7 _) Try.underlying34 rfl (by kernel_rfl) ?_)
            | fail)
          go_ret
          exact ⟨by rw [HV.out, HVv.out]; rfl, (Below.setCell (Below.setCell (below_drewN' HB.out _) (Nat.le_succ _) _) (Nat.le_succ _) _)⟩
        · go_quiet (fail)
          obtain ⟨z0, z1, z2, z3, z4, z5, z6, z7⟩ := Nd.cells HZ.out
          have f1 := HZ.out.free 1
          have f2 := HZ.out.free 2
          have f3 := HZ.out.free 3
          have f4 := HZ.out.free 4
          have f5 := HZ.out.free 5
          have f6 := HZ.out.free 6
          have f7 := HZ.out.free 7
          go_wp2_with (first
            | (with_reducible show wpList _ _ _ ({ dst := _, op := .load 34 (.tmp 2), type := _, pos := _, after := _, guard := _ } :: _) _ _
               refine wpList_load_row_want (by rfl) 34 _ rfl w.heap.size rfl 34 x.cs.toArray (0, 0) _ (At.other (At.other (HA.out.drewN nq) (ne_succ w.heap.size) _) (ne_succ w.heap.size) _) Try.underlying34 rfl (by kernel_rfl) ?_)
            | (with_reducible show wpList _ _ _ ({ dst := _, op := .load 34 (.tmp 5), type := _, pos := _, after := _, guard := _ } :: _) _ _
               refine wpList_load_row_want (by rfl) 34 _ rfl (w.heap.size + 1) rfl 34 (Nd.mk x.kind noSt x.a 0 x.neg).cs.toArray (0, 0) _ (At.set (At.set (HZ.out.drewN nq) 5 _) 7 _) Try.underlying34 rfl (by kernel_rfl) ?_)
            | fail)
          go_region
          go_wp2_with (first
            | (with_reducible show wpList _ _ _ ({ dst := _, op := .load 34 (.tmp 2), type := _, pos := _, after := _, guard := _ } :: _) _ _
               refine wpList_load_row_want (by rfl) 34 _ rfl w.heap.size rfl 34 x.cs.toArray (0, 0) _ (At.other (At.other (HA.out.drewN (nq + 1)) (ne_succ w.heap.size) _) (ne_succ w.heap.size) _) Try.underlying34 rfl (by kernel_rfl) ?_)
            | (with_reducible show wpList _ _ _ ({ dst := _, op := .load 34 (.tmp 5), type := _, pos := _, after := _, guard := _ } :: _) _ _
               refine wpList_load_row_want (by rfl) 34 _ rfl (w.heap.size + 1) rfl 34 (Nd.mk x.kind noSt x.a 0 x.neg).cs.toArray (0, 0) _ (At.set (At.set (HZ.out.drewN (nq + 1)) 5 _) 7 _) Try.underlying34 rfl (by kernel_rfl) ?_)
            | fail)
          go_ret
          exact ⟨by rw [HV.out, HVv.out]; rfl, (Below.setCell (Below.setCell (below_drewN' HB.out _) (Nat.le_succ _) _) (Nat.le_succ _) _)⟩
      have hb0 := (int_ne hk0).1
      have h0 := Lib.hid hk0
      have hb1 := (int_ne hk1).1
      have h1 := Lib.hid hk1
      have hb2 := (int_ne hk2).1
      have h2 := Lib.hid hk2
      have hb3 := (int_ne hk3).1
      have h3 := Lib.hid hk3
      have hb4 := (int_ne hk4).1
      have h4 := Lib.hid hk4
      have hb5 := (int_ne hk5).1
      have h5 := Lib.hid hk5
      have hb6 := (int_ne hk6).1
      have h6 := Lib.hid hk6
      have hb7 := (int_ne hk7).1
      have h7 := Lib.hid hk7
      have hb8 := (int_ne hk8).1
      have h8 := Lib.hid hk8
      clear hk0 hk1 hk2 hk3 hk4 hk5 hk6 hk7 hk8
      have HV : Hid (x.right n = false) := Lib.hid (by unfold Nd.right; simp [h0.out, h1.out, h2.out, h3.out, h4.out, h5.out, h6.out, h7.out, h8.out])
      go_quiet (fail)
      go_wp2_with fail
      go_ret
      exact ⟨by rw [HV.out]; rfl, (below_drewN' HB.out _)⟩

end Go.Proofs.Ytoicbahkoejhjaa
