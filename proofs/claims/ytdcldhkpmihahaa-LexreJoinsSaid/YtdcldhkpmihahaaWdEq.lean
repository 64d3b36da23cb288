/- '==' on two words that are the same. -/
import Derived.Test.YtdcldhkpmihahaaWordsAt
import Derived.Test.YtdcldhkpmihahaaSetEq
namespace Go.Proofs.Ytdcldhkpmihahaa
open Go.RowKit
set_option linter.unusedSimpArgs false

theorem fields_wd : (Try.prog.fieldsOf 31).toList.map (fun f => (f.name, f.type, f.offset)) = [("Kind", 3, 0), ("At", 3, 1), ("Set", 29, 2), ("Name", 9, 6), ("Lo", 3, 7), ("Hi", 3, 8)] := by kernel_rfl
theorem fields_wd' : ∃ f0 f1 f2 f3 f4 f5, (Try.prog.fieldsOf 31).toList = [f0, f1, f2, f3, f4, f5] ∧ (f0.name = "Kind" ∧ f0.type = 3 ∧ f0.offset = 0) ∧ (f1.name = "At" ∧ f1.type = 3 ∧ f1.offset = 1) ∧ (f2.name = "Set" ∧ f2.type = 29 ∧ f2.offset = 2) ∧ (f3.name = "Name" ∧ f3.type = 9 ∧ f3.offset = 6) ∧ (f4.name = "Lo" ∧ f4.type = 3 ∧ f4.offset = 7) ∧ (f5.name = "Hi" ∧ f5.type = 3 ∧ f5.offset = 8) := by
  have h := fields_wd
  generalize (Try.prog.fieldsOf 31).toList = l at h ⊢
  have hl : l.length = 6 := by have := congrArg List.length h; simpa using this
  match l, hl with
  | [f0, f1, f2, f3, f4, f5], _ =>
    simp only [List.map_cons, List.map_nil, List.cons.injEq, Prod.mk.injEq, and_true] at h
    exact ⟨f0, f1, f2, f3, f4, f5, rfl, h⟩
theorem struct_wd : Try.prog.underlying 31 = some (.struct (Try.prog.fieldsOf 31)) := by kernel_rfl
theorem stood_wd : Try.prog.stoodInHeld 31 = false := by kernel_rfl
theorem wd_part0 (w : World) (x : Wd) (p : Int) : (part 3 (wdCells x p) 0).run Try.prog w = .ok (.int .i64 x.kind) w := by
  simp [part, isAgg, run_underlying Try.underlying3, wdCells]
theorem wd_part1 (w : World) (x : Wd) (p : Int) : (part 3 (wdCells x p) 1).run Try.prog w = .ok (.int .i64 p) w := by
  simp [part, isAgg, run_underlying Try.underlying3, wdCells]
theorem wd_part2 (w : World) (x : Wd) (p : Int) : (part 29 (wdCells x p) 2).run Try.prog w = .ok (.agg #[.int .u64 x.set.w0, .int .u64 x.set.w1, .int .u64 x.set.w2, .int .u64 x.set.w3]) w := by
  obtain ⟨iR, hR, hRs⟩ : ∃ i, Try.prog.info? 29 = some i ∧ i.size = 4 := by
    have h : (Try.prog.info? 29).map (·.size) = some 4 := by kernel_rfl
    cases hq : Try.prog.info? 29 with
    | none => simp [hq] at h
    | some i => exact ⟨i, rfl, by simpa [hq] using h⟩
  simp only [part, isAgg, Sem.run_bind, run_underlying Try.underlying29, Result.andThen_ok, sizeOf, typeInfo, Sem.run_pure, if_true]
  simp [hR, hRs, wdCells]
theorem wd_part3 (w : World) (x : Wd) (p : Int) : (part 9 (wdCells x p) 6).run Try.prog w = .ok (.string x.name) w := by
  simp [part, isAgg, run_underlying Try.underlying9, wdCells]
theorem wd_part4 (w : World) (x : Wd) (p : Int) : (part 3 (wdCells x p) 7).run Try.prog w = .ok (.int .i64 x.lo) w := by
  simp [part, isAgg, run_underlying Try.underlying3, wdCells]
theorem wd_part5 (w : World) (x : Wd) (p : Int) : (part 3 (wdCells x p) 8).run Try.prog w = .ok (.int .i64 x.hi) w := by
  simp [part, isAgg, run_underlying Try.underlying3, wdCells]
theorem wdEqD (d : Nat) (w : World) (x : Wd) (p : Int) : (Op.equalIn (d + 1 + 1 + 1) 31 (.agg (wdCells x p)) (.agg (wdCells x p))).run Try.prog w = .ok true w := by
  rw [run_equalIn_struct w (d + 1 + 1) _ _ _ struct_wd stood_wd]
  obtain ⟨f0, f1, f2, f3, f4, f5, hfs, ⟨n0, t0, o0⟩, ⟨n1, t1, o1⟩, ⟨n2, t2, o2⟩, ⟨n3, t3, o3⟩, ⟨n4, t4, o4⟩, ⟨n5, t5, o5⟩⟩ := fields_wd'
  rw [hfs]
  have hi : ∀ a : Int, (Op.equalIn (d + 1 + 1) 3 (.int .i64 a) (.int .i64 a)).run Try.prog w = .ok true w := fun a => by
    rw [run_equalIn_int w (d + 1) 3 .i64 .i64 a a Try.underlying3]
    simp
  have hs : (Op.equalIn (d + 1 + 1) 9 (.string x.name) (.string x.name)).run Try.prog w = .ok true w := by
    rw [run_equalIn_string w (d + 1) 9 x.name x.name Try.underlying9]
    simp
  have hq : (Op.equalIn (d + 1 + 1) 29 (.agg #[.int .u64 x.set.w0, .int .u64 x.set.w1, .int .u64 x.set.w2, .int .u64 x.set.w3]) (.agg #[.int .u64 x.set.w0, .int .u64 x.set.w1, .int .u64 x.set.w2, .int .u64 x.set.w3])).run Try.prog w = .ok true w := by
    rw [run_set_eq (d := d) Try.underlying29 (by kernel_rfl) Try.underlying27 (by kernel_rfl) w x.set x.set, St.eqb_self]
  have hn0 : f0.name ≠ "_" := by rw [n0]; decide
  have hn1 : f1.name ≠ "_" := by rw [n1]; decide
  have hn2 : f2.name ≠ "_" := by rw [n2]; decide
  have hn3 : f3.name ≠ "_" := by rw [n3]; decide
  have hn4 : f4.name ≠ "_" := by rw [n4]; decide
  have hn5 : f5.name ≠ "_" := by rw [n5]; decide
  unfold Op.eqFields
  rw [if_pos hn0, t0, o0]
  simp only [Sem.run_bind, wd_part0, hi x.kind, Result.andThen_ok]
  unfold Op.eqFields
  rw [if_pos hn1, t1, o1]
  simp only [Bool.not_true, Bool.false_eq_true, if_false, Sem.run_bind, wd_part1, hi p, Result.andThen_ok]
  unfold Op.eqFields
  rw [if_pos hn2, t2, o2]
  simp only [Bool.not_true, Bool.false_eq_true, if_false, Sem.run_bind, wd_part2, hq, Result.andThen_ok]
  unfold Op.eqFields
  rw [if_pos hn3, t3, o3]
  simp only [Bool.not_true, Bool.false_eq_true, if_false, Sem.run_bind, wd_part3, hs, Result.andThen_ok]
  unfold Op.eqFields
  rw [if_pos hn4, t4, o4]
  simp only [Bool.not_true, Bool.false_eq_true, if_false, Sem.run_bind, wd_part4, hi x.lo, Result.andThen_ok]
  unfold Op.eqFields
  rw [if_pos hn5, t5, o5]
  simp only [Bool.not_true, Bool.false_eq_true, if_false, Sem.run_bind, wd_part5, hi x.hi, Result.andThen_ok, Op.eqFields, Sem.run_pure, Bool.not_true, Bool.false_eq_true, if_false]
theorem wdEq (w : World) (x : Wd) (p : Int) : (Op.equalIn 10000 31 (.agg #[.int .i64 x.kind, .int .i64 p, .int .u64 x.set.w0, .int .u64 x.set.w1, .int .u64 x.set.w2, .int .u64 x.set.w3, .string x.name, .int .i64 x.lo, .int .i64 x.hi]) (.agg #[.int .i64 x.kind, .int .i64 p, .int .u64 x.set.w0, .int .u64 x.set.w1, .int .u64 x.set.w2, .int .u64 x.set.w3, .string x.name, .int .i64 x.lo, .int .i64 x.hi])).run Try.prog w = .ok true w := wdEqD 9997 w x p
end Go.Proofs.Ytdcldhkpmihahaa
