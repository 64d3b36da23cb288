/- '==' on two nodes. -/
import Derived.Test.YtcghclikkeajfaaNode
import Derived.Test.YtcghclikkeajfaaSetEq
namespace Go.Proofs.Ytcghclikkeajfaa
open Go.RowKit
set_option linter.unusedSimpArgs false

def Nd.eqb (x y : Nd) : Bool := x.kind == y.kind && (x.set.eqb y.set && (x.a == y.a && (x.b == y.b && x.neg == y.neg)))
theorem Nd.eqb_iff (x y : Nd) : x.eqb y = true ↔ x = y := by
  cases x; cases y
  simp [Nd.eqb, St.eqb_iff]
theorem Nd.eqb_self (x : Nd) : x.eqb x = true := (Nd.eqb_iff x x).2 rfl
theorem fields_nd : (Try.prog.fieldsOf 56).toList.map (fun f => (f.name, f.type, f.offset)) = [("Kind", 3, 0), ("Set", 32, 1), ("A", 3, 5), ("B", 3, 6), ("Neg", 4, 7)] := by kernel_rfl
theorem fields_nd' : ∃ f0 f1 f2 f3 f4, (Try.prog.fieldsOf 56).toList = [f0, f1, f2, f3, f4] ∧ (f0.name = "Kind" ∧ f0.type = 3 ∧ f0.offset = 0) ∧ (f1.name = "Set" ∧ f1.type = 32 ∧ f1.offset = 1) ∧ (f2.name = "A" ∧ f2.type = 3 ∧ f2.offset = 5) ∧ (f3.name = "B" ∧ f3.type = 3 ∧ f3.offset = 6) ∧ (f4.name = "Neg" ∧ f4.type = 4 ∧ f4.offset = 7) := by
  have h := fields_nd
  generalize (Try.prog.fieldsOf 56).toList = l at h ⊢
  have hl : l.length = 5 := by have := congrArg List.length h; simpa using this
  match l, hl with
  | [f0, f1, f2, f3, f4], _ =>
    simp only [List.map_cons, List.map_nil, List.cons.injEq, Prod.mk.injEq, and_true] at h
    exact ⟨f0, f1, f2, f3, f4, rfl, h⟩
theorem struct_nd : Try.prog.underlying 56 = some (.struct (Try.prog.fieldsOf 56)) := by kernel_rfl
theorem stood_nd : Try.prog.stoodInHeld 56 = false := by kernel_rfl
theorem nd_part0 (w : World) (x : Nd) : (part 3 x.cs.toArray 0).run Try.prog w = .ok (.int .i64 x.kind) w := by
  simp [part, isAgg, run_underlying Try.underlying3, Nd.cs]
theorem nd_part1 (w : World) (x : Nd) : (part 32 x.cs.toArray 1).run Try.prog w = .ok (.agg #[.int .u64 x.set.w0, .int .u64 x.set.w1, .int .u64 x.set.w2, .int .u64 x.set.w3]) w := by
  obtain ⟨iR, hR, hRs⟩ : ∃ i, Try.prog.info? 32 = some i ∧ i.size = 4 := by
    have h : (Try.prog.info? 32).map (·.size) = some 4 := by kernel_rfl
    cases hq : Try.prog.info? 32 with
    | none => simp [hq] at h
    | some i => exact ⟨i, rfl, by simpa [hq] using h⟩
  simp only [part, isAgg, Sem.run_bind, run_underlying Try.underlying32, Result.andThen_ok, sizeOf, typeInfo, Sem.run_pure, if_true]
  simp [hR, hRs, Nd.cs]
theorem nd_part2 (w : World) (x : Nd) : (part 3 x.cs.toArray 5).run Try.prog w = .ok (.int .i64 x.a) w := by
  simp [part, isAgg, run_underlying Try.underlying3, Nd.cs]
theorem nd_part3 (w : World) (x : Nd) : (part 3 x.cs.toArray 6).run Try.prog w = .ok (.int .i64 x.b) w := by
  simp [part, isAgg, run_underlying Try.underlying3, Nd.cs]
theorem nd_part4 (w : World) (x : Nd) : (part 4 x.cs.toArray 7).run Try.prog w = .ok (.bool x.neg) w := by
  simp [part, isAgg, run_underlying Try.underlying4, Nd.cs]
theorem ndEqD (d : Nat) (w : World) (x y : Nd) : (Op.equalIn (d + 1 + 1 + 1) 56 (.agg x.cs.toArray) (.agg y.cs.toArray)).run Try.prog w = .ok (x.eqb y) w := by
  rw [run_equalIn_struct w (d + 1 + 1) _ _ _ struct_nd stood_nd]
  obtain ⟨f0, f1, f2, f3, f4, hfs, ⟨n0, t0, o0⟩, ⟨n1, t1, o1⟩, ⟨n2, t2, o2⟩, ⟨n3, t3, o3⟩, ⟨n4, t4, o4⟩⟩ := fields_nd'
  rw [hfs]
  have hi : ∀ a b : Int, (Op.equalIn (d + 1 + 1) 3 (.int .i64 a) (.int .i64 b)).run Try.prog w = .ok (a == b) w := fun a b => run_equalIn_int w (d + 1) 3 .i64 .i64 a b Try.underlying3
  have hb : ∀ a b : Bool, (Op.equalIn (d + 1 + 1) 4 (.bool a) (.bool b)).run Try.prog w = .ok (a == b) w := fun a b => run_equalIn_bool w (d + 1) 4 a b Try.underlying4
  have hq := run_set_eq (d := d) Try.underlying32 (by kernel_rfl) Try.underlying30 (by kernel_rfl) w x.set y.set
  have hn0 : f0.name ≠ "_" := by rw [n0]; decide
  have hn1 : f1.name ≠ "_" := by rw [n1]; decide
  have hn2 : f2.name ≠ "_" := by rw [n2]; decide
  have hn3 : f3.name ≠ "_" := by rw [n3]; decide
  have hn4 : f4.name ≠ "_" := by rw [n4]; decide
  unfold Op.eqFields
  rw [if_pos hn0, t0, o0]
  simp only [Sem.run_bind, nd_part0, hi x.kind y.kind, Result.andThen_ok]
  cases q0 : (x.kind == y.kind) with
  | false => simp [Nd.eqb, q0]
  | true =>
    simp only [Bool.not_true, Bool.false_eq_true, if_false]
    unfold Op.eqFields
    rw [if_pos hn1, t1, o1]
    simp only [Sem.run_bind, nd_part1, hq, Result.andThen_ok]
    cases q1 : (x.set.eqb y.set) with
    | false => simp [Nd.eqb, q0, q1]
    | true =>
      simp only [Bool.not_true, Bool.false_eq_true, if_false]
      unfold Op.eqFields
      rw [if_pos hn2, t2, o2]
      simp only [Sem.run_bind, nd_part2, hi x.a y.a, Result.andThen_ok]
      cases q2 : (x.a == y.a) with
      | false => simp [Nd.eqb, q0, q1, q2]
      | true =>
        simp only [Bool.not_true, Bool.false_eq_true, if_false]
        unfold Op.eqFields
        rw [if_pos hn3, t3, o3]
        simp only [Sem.run_bind, nd_part3, hi x.b y.b, Result.andThen_ok]
        cases q3 : (x.b == y.b) with
        | false => simp [Nd.eqb, q0, q1, q2, q3]
        | true =>
          simp only [Bool.not_true, Bool.false_eq_true, if_false]
          unfold Op.eqFields
          rw [if_pos hn4, t4, o4]
          simp only [Sem.run_bind, nd_part4, hb x.neg y.neg, Result.andThen_ok]
          cases q4 : (x.neg == y.neg) with
          | false => simp [Nd.eqb, q0, q1, q2, q3, q4]
          | true =>
            simp only [Bool.not_true, Bool.false_eq_true, if_false]
            simp [Nd.eqb, Op.eqFields, q0, q1, q2, q3, q4]
theorem ndEq (w : World) (x y : Nd) (v : Bool) (h : x.eqb y = v) : (Op.equalIn 10000 56 (.agg x.cs.toArray) (.agg y.cs.toArray)).run Try.prog w = .ok v w := by
  rw [← h]; exact ndEqD 9997 w x y

end Go.Proofs.Ytcghclikkeajfaa
