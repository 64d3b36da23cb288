/- (*arena.Arena).formed: may a node be put behind so many? -/
import Derived.Test.YtcghclikkeajfaaGreatMu
namespace Go.Proofs.YtcghclikkeajfaaGreat
open Go.RowKit Go.Maps
set_option linter.unusedSimpArgs false
set_option linter.unusedVariables false

set_option maxRecDepth 100000 in
set_option maxHeartbeats 16000000 in
theorem aFormedOf (a : Value) (n : Nat) (x : Nd) (w : World) (hhas : ∀ (i : Int) (w' : World), Below w.heap.size w w' → Calls Tryz.prog 60 #[a, .int .i64 i] w' fun e w2 => e = .returned (.bool (aIn i n)) ∧ w2 = w') :
    Calls Tryz.prog 81 #[a, .agg x.cs.toArray] w fun e w' => e = .returned (.bool (x.right n)) ∧ Below w.heap.size w w' := by
  have HH := Lib.hid hhas
  clear hhas
  have HA : Hid (At (w.alloc (.cells x.cs.toArray 65)) w.heap.size 65 x.cs.toArray) := Lib.hid (At.new _ _ _)
  have HB : Hid (Below w.heap.size w (w.alloc (.cells x.cs.toArray 65))) := Lib.hid ((Below.refl _ _).alloc (Nat.le_refl _) _)
  obtain ⟨c0, c1, c2, c3, c4, c5, c6, c7⟩ := Nd.cells HA.out
  by_cases hk0 : x.kind = 0
  · have HKd := Lib.hid hk0
    rw [hk0] at c0
    clear hk0
    have HV : Hid (x.right n = x.eqb ⟨0, noSt, 0, 0, false⟩) := Lib.hid (by unfold Nd.right Nd.bare; simp [HKd.out])
    obtain ⟨v, hv⟩ : ∃ v, x.eqb ⟨0, noSt, 0, 0, false⟩ = v := ⟨_, rfl⟩
    have HVv := Lib.hid hv
    have hq : ∀ W, (Op.equalIn 10000 65 (.agg x.cs.toArray) (.agg #[.int .i64 0, .int .u64 0, .int .u64 0, .int .u64 0, .int .u64 0, .int .i64 0, .int .i64 0, .bool false])).run Tryz.prog W = .ok v W := fun W => ndEq W x ⟨0, noSt, 0, 0, false⟩ v hv
    clear hv
    go_enter Tryz.func81, Tryz.ntmps81
    go_wp2_with (first
      | (with_reducible show wpList _ _ _ ({ dst := some 10, op := .load _ _, type := _, pos := _, after := _, guard := _ } :: _) _ _
         refine wpList_load_row_want (by rfl) 65 _ rfl w.heap.size rfl 65 x.cs.toArray (0, 0) _ HA.out Tryz.underlying65 rfl (by rw [List.size_toArray, Nd.cs_length]; kernel_rfl) ?_)
      | fail)
    go_ret
    exact ⟨by rw [HV.out, HVv.out]; rfl, HB.out⟩
  by_cases hk1 : x.kind = 1
  · have HKd := Lib.hid hk1
    rw [hk1] at c0
    clear hk1
    have HV : Hid (x.right n = x.eqb ⟨1, noSt, 0, 0, false⟩) := Lib.hid (by unfold Nd.right Nd.bare; simp [HKd.out])
    obtain ⟨v, hv⟩ : ∃ v, x.eqb ⟨1, noSt, 0, 0, false⟩ = v := ⟨_, rfl⟩
    have HVv := Lib.hid hv
    have hq : ∀ W, (Op.equalIn 10000 65 (.agg x.cs.toArray) (.agg #[.int .i64 1, .int .u64 0, .int .u64 0, .int .u64 0, .int .u64 0, .int .i64 0, .int .i64 0, .bool false])).run Tryz.prog W = .ok v W := fun W => ndEq W x ⟨1, noSt, 0, 0, false⟩ v hv
    clear hv
    go_enter Tryz.func81, Tryz.ntmps81
    go_wp2_with (first
      | (with_reducible show wpList _ _ _ ({ dst := some 10, op := .load _ _, type := _, pos := _, after := _, guard := _ } :: _) _ _
         refine wpList_load_row_want (by rfl) 65 _ rfl w.heap.size rfl 65 x.cs.toArray (0, 0) _ HA.out Tryz.underlying65 rfl (by rw [List.size_toArray, Nd.cs_length]; kernel_rfl) ?_)
      | fail)
    go_ret
    exact ⟨by rw [HV.out, HVv.out]; rfl, HB.out⟩
  by_cases hk2 : x.kind = 2
  · have HKd := Lib.hid hk2
    rw [hk2] at c0
    clear hk2
    have HV : Hid (x.right n = x.eqb ⟨2, x.set, 0, 0, false⟩) := Lib.hid (by unfold Nd.right Nd.bare; simp [HKd.out])
    obtain ⟨v, hv⟩ : ∃ v, x.eqb ⟨2, x.set, 0, 0, false⟩ = v := ⟨_, rfl⟩
    have HVv := Lib.hid hv
    have hq : ∀ W, (Op.equalIn 10000 65 (.agg x.cs.toArray) (.agg #[.int .i64 2, .int .u64 x.set.w0, .int .u64 x.set.w1, .int .u64 x.set.w2, .int .u64 x.set.w3, .int .i64 0, .int .i64 0, .bool false])).run Tryz.prog W = .ok v W := fun W => ndEq W x ⟨2, x.set, 0, 0, false⟩ v hv
    clear hv
    go_enter Tryz.func81, Tryz.ntmps81
    go_wp2_with (first
      | (with_reducible show wpList _ _ _ ({ dst := some 17, op := .load _ _, type := _, pos := _, after := _, guard := _ } :: _) _ _
         refine wpList_load_row_want (by rfl) 65 _ rfl w.heap.size rfl 65 x.cs.toArray (0, 0) _ HA.out Tryz.underlying65 rfl (by rw [List.size_toArray, Nd.cs_length]; kernel_rfl) ?_)
      | fail)
    go_ret
    exact ⟨by rw [HV.out, HVv.out]; rfl, HB.out⟩
  by_cases hk3 : x.kind = 3
  · have HKd := Lib.hid hk3
    rw [hk3] at c0
    clear hk3
    have HV : Hid (x.right n = (x.eqb ⟨3, noSt, x.a, x.b, false⟩ && aIn x.a n && aIn x.b n)) := Lib.hid (by unfold Nd.right Nd.bare; simp [HKd.out])
    obtain ⟨v, hv⟩ : ∃ v, x.eqb ⟨3, noSt, x.a, x.b, false⟩ = v := ⟨_, rfl⟩
    have HVv := Lib.hid hv
    have hq : ∀ W, (Op.equalIn 10000 65 (.agg x.cs.toArray) (.agg #[.int .i64 3, .int .u64 0, .int .u64 0, .int .u64 0, .int .u64 0, .int .i64 x.a, .int .i64 x.b, .bool false])).run Tryz.prog W = .ok v W := fun W => ndEq W x ⟨3, noSt, x.a, x.b, false⟩ v hv
    clear hv
    cases v
    · go_enter Tryz.func81, Tryz.ntmps81
      go_wp2_with (first
        | (with_reducible show wpList _ _ _ ({ dst := some 28, op := .load _ _, type := _, pos := _, after := _, guard := _ } :: _) _ _
           refine wpList_load_row_want (by rfl) 65 _ rfl w.heap.size rfl 65 x.cs.toArray (0, 0) _ HA.out Tryz.underlying65 rfl (by rw [List.size_toArray, Nd.cs_length]; kernel_rfl) ?_)
        | fail)
      go_ret
      exact ⟨by rw [HV.out, HVv.out]; rfl, HB.out⟩
    · go_enter Tryz.func81, Tryz.ntmps81
      go_wp2_with (first
        | (with_reducible show wpList _ _ _ ({ dst := some 28, op := .load _ _, type := _, pos := _, after := _, guard := _ } :: _) _ _
           refine wpList_load_row_want (by rfl) 65 _ rfl w.heap.size rfl 65 x.cs.toArray (0, 0) _ HA.out Tryz.underlying65 rfl (by rw [List.size_toArray, Nd.cs_length]; kernel_rfl) ?_)
        | fail)
      refine (HH.out x.a _ HB.out).mono ?_
      rintro e w1 ⟨rfl, rfl⟩
      cases hai : aIn x.a n
      · have hai := Lib.hid hai
        go_wp2_with fail
        go_ret
        exact ⟨by rw [HV.out, HVv.out, hai.out]; rfl, HB.out⟩
      · have hai := Lib.hid hai
        go_wp2_with fail
        refine (HH.out x.b _ HB.out).mono ?_
        rintro e w1 ⟨rfl, rfl⟩
        go_wp2_with fail
        go_ret
        exact ⟨by rw [HV.out, HVv.out, hai.out]; rfl, HB.out⟩
  by_cases hk4 : x.kind = 4
  · have HKd := Lib.hid hk4
    rw [hk4] at c0
    clear hk4
    have HV : Hid (x.right n = (x.eqb ⟨4, noSt, x.a, x.b, false⟩ && aIn x.a n && aIn x.b n)) := Lib.hid (by unfold Nd.right Nd.bare; simp [HKd.out])
    obtain ⟨v, hv⟩ : ∃ v, x.eqb ⟨4, noSt, x.a, x.b, false⟩ = v := ⟨_, rfl⟩
    have HVv := Lib.hid hv
    have hq : ∀ W, (Op.equalIn 10000 65 (.agg x.cs.toArray) (.agg #[.int .i64 4, .int .u64 0, .int .u64 0, .int .u64 0, .int .u64 0, .int .i64 x.a, .int .i64 x.b, .bool false])).run Tryz.prog W = .ok v W := fun W => ndEq W x ⟨4, noSt, x.a, x.b, false⟩ v hv
    clear hv
    cases v
    · go_enter Tryz.func81, Tryz.ntmps81
      go_wp2_with (first
        | (with_reducible show wpList _ _ _ ({ dst := some 28, op := .load _ _, type := _, pos := _, after := _, guard := _ } :: _) _ _
           refine wpList_load_row_want (by rfl) 65 _ rfl w.heap.size rfl 65 x.cs.toArray (0, 0) _ HA.out Tryz.underlying65 rfl (by rw [List.size_toArray, Nd.cs_length]; kernel_rfl) ?_)
        | fail)
      go_ret
      exact ⟨by rw [HV.out, HVv.out]; rfl, HB.out⟩
    · go_enter Tryz.func81, Tryz.ntmps81
      go_wp2_with (first
        | (with_reducible show wpList _ _ _ ({ dst := some 28, op := .load _ _, type := _, pos := _, after := _, guard := _ } :: _) _ _
           refine wpList_load_row_want (by rfl) 65 _ rfl w.heap.size rfl 65 x.cs.toArray (0, 0) _ HA.out Tryz.underlying65 rfl (by rw [List.size_toArray, Nd.cs_length]; kernel_rfl) ?_)
        | fail)
      refine (HH.out x.a _ HB.out).mono ?_
      rintro e w1 ⟨rfl, rfl⟩
      cases hai : aIn x.a n
      · have hai := Lib.hid hai
        go_wp2_with fail
        go_ret
        exact ⟨by rw [HV.out, HVv.out, hai.out]; rfl, HB.out⟩
      · have hai := Lib.hid hai
        go_wp2_with fail
        refine (HH.out x.b _ HB.out).mono ?_
        rintro e w1 ⟨rfl, rfl⟩
        go_wp2_with fail
        go_ret
        exact ⟨by rw [HV.out, HVv.out, hai.out]; rfl, HB.out⟩
  by_cases hk5 : x.kind = 5
  · have HKd := Lib.hid hk5
    rw [hk5] at c0
    clear hk5
    have HV : Hid (x.right n = (x.eqb ⟨5, noSt, x.a, x.b, false⟩ && aIn x.a n && aIn x.b n)) := Lib.hid (by unfold Nd.right Nd.bare; simp [HKd.out])
    obtain ⟨v, hv⟩ : ∃ v, x.eqb ⟨5, noSt, x.a, x.b, false⟩ = v := ⟨_, rfl⟩
    have HVv := Lib.hid hv
    have hq : ∀ W, (Op.equalIn 10000 65 (.agg x.cs.toArray) (.agg #[.int .i64 5, .int .u64 0, .int .u64 0, .int .u64 0, .int .u64 0, .int .i64 x.a, .int .i64 x.b, .bool false])).run Tryz.prog W = .ok v W := fun W => ndEq W x ⟨5, noSt, x.a, x.b, false⟩ v hv
    clear hv
    cases v
    · go_enter Tryz.func81, Tryz.ntmps81
      go_wp2_with (first
        | (with_reducible show wpList _ _ _ ({ dst := some 28, op := .load _ _, type := _, pos := _, after := _, guard := _ } :: _) _ _
           refine wpList_load_row_want (by rfl) 65 _ rfl w.heap.size rfl 65 x.cs.toArray (0, 0) _ HA.out Tryz.underlying65 rfl (by rw [List.size_toArray, Nd.cs_length]; kernel_rfl) ?_)
        | fail)
      go_ret
      exact ⟨by rw [HV.out, HVv.out]; rfl, HB.out⟩
    · go_enter Tryz.func81, Tryz.ntmps81
      go_wp2_with (first
        | (with_reducible show wpList _ _ _ ({ dst := some 28, op := .load _ _, type := _, pos := _, after := _, guard := _ } :: _) _ _
           refine wpList_load_row_want (by rfl) 65 _ rfl w.heap.size rfl 65 x.cs.toArray (0, 0) _ HA.out Tryz.underlying65 rfl (by rw [List.size_toArray, Nd.cs_length]; kernel_rfl) ?_)
        | fail)
      refine (HH.out x.a _ HB.out).mono ?_
      rintro e w1 ⟨rfl, rfl⟩
      cases hai : aIn x.a n
      · have hai := Lib.hid hai
        go_wp2_with fail
        go_ret
        exact ⟨by rw [HV.out, HVv.out, hai.out]; rfl, HB.out⟩
      · have hai := Lib.hid hai
        go_wp2_with fail
        refine (HH.out x.b _ HB.out).mono ?_
        rintro e w1 ⟨rfl, rfl⟩
        go_wp2_with fail
        go_ret
        exact ⟨by rw [HV.out, HVv.out, hai.out]; rfl, HB.out⟩
  by_cases hk6 : x.kind = 6
  · have HKd := Lib.hid hk6
    rw [hk6] at c0
    clear hk6
    have HV : Hid (x.right n = (x.eqb ⟨6, noSt, x.a, 0, false⟩ && aIn x.a n)) := Lib.hid (by unfold Nd.right Nd.bare; simp [HKd.out])
    obtain ⟨v, hv⟩ : ∃ v, x.eqb ⟨6, noSt, x.a, 0, false⟩ = v := ⟨_, rfl⟩
    have HVv := Lib.hid hv
    have hq : ∀ W, (Op.equalIn 10000 65 (.agg x.cs.toArray) (.agg #[.int .i64 6, .int .u64 0, .int .u64 0, .int .u64 0, .int .u64 0, .int .i64 x.a, .int .i64 0, .bool false])).run Tryz.prog W = .ok v W := fun W => ndEq W x ⟨6, noSt, x.a, 0, false⟩ v hv
    clear hv
    cases v
    · go_enter Tryz.func81, Tryz.ntmps81
      go_wp2_with (first
        | (with_reducible show wpList _ _ _ ({ dst := some 52, op := .load _ _, type := _, pos := _, after := _, guard := _ } :: _) _ _
           refine wpList_load_row_want (by rfl) 65 _ rfl w.heap.size rfl 65 x.cs.toArray (0, 0) _ HA.out Tryz.underlying65 rfl (by rw [List.size_toArray, Nd.cs_length]; kernel_rfl) ?_)
        | fail)
      go_ret
      exact ⟨by rw [HV.out, HVv.out]; rfl, HB.out⟩
    · go_enter Tryz.func81, Tryz.ntmps81
      go_wp2_with (first
        | (with_reducible show wpList _ _ _ ({ dst := some 52, op := .load _ _, type := _, pos := _, after := _, guard := _ } :: _) _ _
           refine wpList_load_row_want (by rfl) 65 _ rfl w.heap.size rfl 65 x.cs.toArray (0, 0) _ HA.out Tryz.underlying65 rfl (by rw [List.size_toArray, Nd.cs_length]; kernel_rfl) ?_)
        | fail)
      refine (HH.out x.a _ HB.out).mono ?_
      rintro e w1 ⟨rfl, rfl⟩
      go_wp2_with fail
      go_ret
      exact ⟨by rw [HV.out, HVv.out]; rfl, HB.out⟩
  by_cases hk7 : x.kind = 7
  · have HKd := Lib.hid hk7
    rw [hk7] at c0
    clear hk7
    have HV : Hid (x.right n = (x.eqb ⟨7, noSt, x.a, 0, false⟩ && aIn x.a n)) := Lib.hid (by unfold Nd.right Nd.bare; simp [HKd.out])
    obtain ⟨v, hv⟩ : ∃ v, x.eqb ⟨7, noSt, x.a, 0, false⟩ = v := ⟨_, rfl⟩
    have HVv := Lib.hid hv
    have hq : ∀ W, (Op.equalIn 10000 65 (.agg x.cs.toArray) (.agg #[.int .i64 7, .int .u64 0, .int .u64 0, .int .u64 0, .int .u64 0, .int .i64 x.a, .int .i64 0, .bool false])).run Tryz.prog W = .ok v W := fun W => ndEq W x ⟨7, noSt, x.a, 0, false⟩ v hv
    clear hv
    cases v
    · go_enter Tryz.func81, Tryz.ntmps81
      go_wp2_with (first
        | (with_reducible show wpList _ _ _ ({ dst := some 52, op := .load _ _, type := _, pos := _, after := _, guard := _ } :: _) _ _
           refine wpList_load_row_want (by rfl) 65 _ rfl w.heap.size rfl 65 x.cs.toArray (0, 0) _ HA.out Tryz.underlying65 rfl (by rw [List.size_toArray, Nd.cs_length]; kernel_rfl) ?_)
        | fail)
      go_ret
      exact ⟨by rw [HV.out, HVv.out]; rfl, HB.out⟩
    · go_enter Tryz.func81, Tryz.ntmps81
      go_wp2_with (first
        | (with_reducible show wpList _ _ _ ({ dst := some 52, op := .load _ _, type := _, pos := _, after := _, guard := _ } :: _) _ _
           refine wpList_load_row_want (by rfl) 65 _ rfl w.heap.size rfl 65 x.cs.toArray (0, 0) _ HA.out Tryz.underlying65 rfl (by rw [List.size_toArray, Nd.cs_length]; kernel_rfl) ?_)
        | fail)
      refine (HH.out x.a _ HB.out).mono ?_
      rintro e w1 ⟨rfl, rfl⟩
      go_wp2_with fail
      go_ret
      exact ⟨by rw [HV.out, HVv.out]; rfl, HB.out⟩
  by_cases hk8 : x.kind = 8
  · have HKd := Lib.hid hk8
    rw [hk8] at c0
    clear hk8
    have HV : Hid (x.right n = (x.eqb ⟨8, noSt, x.a, 0, x.neg⟩ && aIn x.a 4)) := Lib.hid (by unfold Nd.right Nd.bare; simp [HKd.out])
    obtain ⟨v, hv⟩ : ∃ v, x.eqb ⟨8, noSt, x.a, 0, x.neg⟩ = v := ⟨_, rfl⟩
    have HVv := Lib.hid hv
    have hq : ∀ W, (Op.equalIn 10000 65 (.agg x.cs.toArray) (.agg #[.int .i64 8, .int .u64 0, .int .u64 0, .int .u64 0, .int .u64 0, .int .i64 x.a, .int .i64 0, .bool x.neg])).run Tryz.prog W = .ok v W := fun W => ndEq W x ⟨8, noSt, x.a, 0, x.neg⟩ v hv
    clear hv
    cases v
    · go_enter Tryz.func81, Tryz.ntmps81
      go_wp2_with (first
        | (with_reducible show wpList _ _ _ ({ dst := some 67, op := .load _ _, type := _, pos := _, after := _, guard := _ } :: _) _ _
           refine wpList_load_row_want (by rfl) 65 _ rfl w.heap.size rfl 65 x.cs.toArray (0, 0) _ HA.out Tryz.underlying65 rfl (by rw [List.size_toArray, Nd.cs_length]; kernel_rfl) ?_)
        | fail)
      go_ret
      exact ⟨by rw [HV.out, HVv.out]; rfl, HB.out⟩
    · by_cases ha0 : 0 ≤ x.a
      · have HI : Hid (aIn x.a 4 = decide (x.a < 4)) := Lib.hid (by unfold aIn; rw [decide_eq_true ha0, Bool.true_and])
        have ha1 : decide (0 ≤ x.a) = true := decide_eq_true ha0
        go_enter Tryz.func81, Tryz.ntmps81
        go_wp2_with (first
          | (with_reducible show wpList _ _ _ ({ dst := some 67, op := .load _ _, type := _, pos := _, after := _, guard := _ } :: _) _ _
             refine wpList_load_row_want (by rfl) 65 _ rfl w.heap.size rfl 65 x.cs.toArray (0, 0) _ HA.out Tryz.underlying65 rfl (by rw [List.size_toArray, Nd.cs_length]; kernel_rfl) ?_)
          | fail)
        go_ret
        exact ⟨by rw [HV.out, HVv.out, HI.out]; rfl, HB.out⟩
      · have HI : Hid (aIn x.a 4 = false) := Lib.hid (by unfold aIn; rw [decide_eq_false ha0, Bool.false_and])
        have ha1 : decide (0 ≤ x.a) = false := decide_eq_false ha0
        go_enter Tryz.func81, Tryz.ntmps81
        go_wp2_with (first
          | (with_reducible show wpList _ _ _ ({ dst := some 67, op := .load _ _, type := _, pos := _, after := _, guard := _ } :: _) _ _
             refine wpList_load_row_want (by rfl) 65 _ rfl w.heap.size rfl 65 x.cs.toArray (0, 0) _ HA.out Tryz.underlying65 rfl (by rw [List.size_toArray, Nd.cs_length]; kernel_rfl) ?_)
          | fail)
        go_ret
        exact ⟨by rw [HV.out, HVv.out, HI.out]; rfl, HB.out⟩
  have hb0 := (int_ne hk0).1
  have h0 := Lib.hid hk0
  have hb1 := (int_ne hk1).1
  have h1 := Lib.hid hk1
  have hb2 := (int_ne hk2).1
  have h2 := Lib.hid hk2
  have hb3 := (int_ne hk3).1
  have h3 := Lib.hid hk3
  have hb4 := (int_ne hk4).1
  have h4 := Lib.hid hk4
  have hb5 := (int_ne hk5).1
  have h5 := Lib.hid hk5
  have hb6 := (int_ne hk6).1
  have h6 := Lib.hid hk6
  have hb7 := (int_ne hk7).1
  have h7 := Lib.hid hk7
  have hb8 := (int_ne hk8).1
  have h8 := Lib.hid hk8
  clear hk0 hk1 hk2 hk3 hk4 hk5 hk6 hk7 hk8
  have HV : Hid (x.right n = false) := Lib.hid (by unfold Nd.right; simp [h0.out, h1.out, h2.out, h3.out, h4.out, h5.out, h6.out, h7.out, h8.out])
  go_enter Tryz.func81, Tryz.ntmps81
  go_wp2_with fail
  go_ret
  exact ⟨by rw [HV.out]; rfl, HB.out⟩
theorem aFormed {w : World} {a : Value} {ns : List Nd} {F : Nat → Prop} (x : Nd) (h : AA w a ns F) : Calls Tryz.prog 81 #[a, .agg x.cs.toArray] w fun e w' => e = .returned (.bool (x.right ns.length)) ∧ Below w.heap.size w w' :=
  aFormedOf a ns.length x w (fun i w' hb => aHas i (h.next hb))

end Go.Proofs.YtcghclikkeajfaaGreat
