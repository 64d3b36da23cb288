/- '==' on two classes that are the same. -/
import Derived.Test.YthmppooefajpgaaProg
import Derived.Test.YthmppooefajpgaaWords
import Derived.Test.YthmppooefajpgaaCl
namespace Go.Proofs.Ythmppooefajpgaa
open Go.RowKit

theorem eqRow (d : Nat) (w : World) (c : Cl) : (Op.equalIn (d + 1 + 1) 24 (.agg (c.cells.extract 0 256)) (.agg (c.cells.extract 0 256))).run Try.prog w = .ok true w := by
  obtain ⟨iB, hB⟩ : ∃ i, Try.prog.info? 5 = some i := Option.isSome_iff_exists.1 (by kernel_rfl)
  have h1 : Try.prog.cellsOf 5 = 1 := by kernel_rfl
  rw [run_equalIn_array w (d + 1) _ _ Try.underlying24 hB, h1]
  refine run_row_self Try.underlying5 d w _ _ (fun i hi => ?_)
  have hi' : i < 256 := by simpa using hi
  exact ⟨(c.cl i : Nat), by rw [Array.getElem?_extract, if_pos (by rw [Cl.size]; omega), Nat.zero_add, Cl.get c i hi']⟩
theorem part0 (w : World) (c : Cl) : (part 24 c.cells 0).run Try.prog w = .ok (.agg (c.cells.extract 0 256)) w := by
  obtain ⟨iR, hR, hRs⟩ : ∃ i, Try.prog.info? 24 = some i ∧ i.size = 256 := by
    have h : (Try.prog.info? 24).map (·.size) = some 256 := by kernel_rfl
    cases hq : Try.prog.info? 24 with
    | none => simp [hq] at h
    | some i => exact ⟨i, rfl, by simpa [hq] using h⟩
  simp only [part, isAgg, Sem.run_bind, run_underlying Try.underlying24, Result.andThen_ok, sizeOf, typeInfo, Sem.run_pure, if_true]
  simp [hR, hRs]
theorem part1 (w : World) (c : Cl) : (part 3 c.cells 256).run Try.prog w = .ok (.int .i64 c.n) w := by
  simp [part, isAgg, run_underlying Try.underlying3, Cl.getN]
theorem fields_cl : (Try.prog.fieldsOf 26).toList.map (fun f => (f.name, f.type, f.offset)) = [("Of", 24, 0), ("N", 3, 256)] := by kernel_rfl
theorem fields_cl' : ∃ f0 f1, (Try.prog.fieldsOf 26).toList = [f0, f1] ∧ (f0.name = "Of" ∧ f0.type = 24 ∧ f0.offset = 0) ∧ (f1.name = "N" ∧ f1.type = 3 ∧ f1.offset = 256) := by
  have h := fields_cl
  generalize (Try.prog.fieldsOf 26).toList = l at h ⊢
  have hl : l.length = 2 := by have := congrArg List.length h; simpa using this
  match l, hl with
  | [f0, f1], _ =>
    simp only [List.map_cons, List.map_nil, List.cons.injEq, Prod.mk.injEq, and_true] at h
    exact ⟨f0, f1, rfl, h.1, h.2⟩
theorem struct_cl : Try.prog.underlying 26 = some (.struct (Try.prog.fieldsOf 26)) := by kernel_rfl
theorem stood_cl : Try.prog.stoodInHeld 26 = false := by kernel_rfl
theorem clEqD (d : Nat) (w : World) (c : Cl) : (Op.equalIn (d + 1 + 1 + 1) 26 (.agg c.cells) (.agg c.cells)).run Try.prog w = .ok true w := by
  rw [run_equalIn_struct w (d + 1 + 1) _ _ _ struct_cl stood_cl]
  obtain ⟨f0, f1, hfs, ⟨n0, t0, o0⟩, ⟨n1, t1, o1⟩⟩ := fields_cl'
  rw [hfs]
  have he1 : (Op.equalIn (d + 1 + 1) 3 (.int .i64 c.n) (.int .i64 c.n)).run Try.prog w = .ok true w := by
    rw [run_equalIn_int w (d + 1) 3 .i64 .i64 c.n c.n Try.underlying3]
    simp
  have hn0 : f0.name ≠ "_" := by rw [n0]; decide
  have hn1 : f1.name ≠ "_" := by rw [n1]; decide
  unfold Op.eqFields
  rw [if_pos hn0, t0, o0]
  simp only [Sem.run_bind, part0, eqRow, Result.andThen_ok]
  unfold Op.eqFields
  rw [if_pos hn1, t1, o1]
  simp only [Bool.not_true, Bool.false_eq_true, if_false, Sem.run_bind, part1, he1, Result.andThen_ok, Op.eqFields, Sem.run_pure]
theorem clEq (w : World) (c : Cl) : (Op.equalIn 10000 26 (.agg c.cells) (.agg c.cells)).run Try.prog w = .ok true w := clEqD 9997 w c

end Go.Proofs.Ythmppooefajpgaa
