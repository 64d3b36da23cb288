/- Joined: TurnSpans, NodeTurn, ArenaSpec, ArenaMade, NodeRow, ArenaAwake, LawPuts9, NodeKey, OffF, ArenaAid. -/
import Derived.Test.YtjkcbojlopdonaaMac
import Derived.Test.YtjkcbojlopdonaaMai
import Derived.Test.YtjkcbojlopdonaaMaj
import Derived.Deep.AppendLies
import Derived.BigRegion
import Derived.BigQuiet
import Derived.Deep.QuietTactic
import Derived.Maps.OwnSet
import Derived.DeepKeys4
import Derived.Deep.RegionHeld3
import Derived.StillTailTactics
import Derived.Maps.AppendAt
/- What a pattern turned round matches: backwards what the pattern does. No program is walked here. -/
namespace Go.Proofs.Ytjkcbojlopdonaa
open Go.RowKit

abbrev Tbl := Nat → Nat → Bool
/-- Two tables of n places say the same. -/
def Eqv (n : Nat) (f g : Tbl) : Prop := ∀ i j, i < n → j < n → f i j = g i j
theorem Eqv.refl (n : Nat) (f : Tbl) : Eqv n f f := fun _ _ _ _ => rfl
theorem Eqv.symm {n : Nat} {f g : Tbl} (h : Eqv n f g) : Eqv n g f := fun i j hi hj => (h i j hi hj).symm
theorem Eqv.trans {n : Nat} {f g h : Tbl} (a : Eqv n f g) (b : Eqv n g h) : Eqv n f h := fun i j hi hj => (a i j hi hj).trans (b i j hi hj)
/- So many times. -/
/- Looks. -/
/- Bytes and the two ends. -/
end Go.Proofs.Ytjkcbojlopdonaa

/- What turning nodes round does to their tables: mathematics; no program is named. -/
namespace Go.Proofs.Ytjkcbojlopdonaa
open Go.RowKit
set_option linter.unusedSimpArgs false
set_option linter.unusedVariables false

end Go.Proofs.Ytjkcbojlopdonaa

/- What an arena does, said of any way to read one out of the memory; and what an arena of some nodes is. -/
namespace Go.Proofs.Ytjkcbojlopdonaa
open Go.RowKit
set_option linter.unusedVariables false

/-- Only blocks of F have turned, and new ones have come. -/
structure OffF (F : Nat → Prop) (w w' : World) : Prop where
  os : w'.os = w.os
  tape : w'.tape = w.tape
  output : w'.output = w.output
  size : w.heap.size ≤ w'.heap.size
  block : ∀ b, b < w.heap.size → ¬ F b → w'.heap[b]? = w.heap[b]?
theorem OffF.below {F : Nat → Prop} {w w' : World} {B : Nat} (h : OffF F w w') (hF : ∀ b, F b → B ≤ b) (hB : B ≤ w.heap.size) : Below B w w' :=
  ⟨h.os, h.tape, h.output, h.size, fun b hb => h.block b (by omega) (fun q => by have := hF b q; omega)⟩
theorem OffF.of {F : Nat → Prop} {w w' : World} (h : Below w.heap.size w w') : OffF F w w' := ⟨h.os, h.tape, h.output, h.size, fun b hb _ => h.block b hb⟩
/-- Each node may stand where it stands, and no two are the same. -/
def FineN (ns : List Nd) : Prop := (∀ j, j < ns.length → (ndAt ns j).right j = true ∧ NdFit (ndAt ns j)) ∧ ∀ i j, i < ns.length → j < ns.length → ndAt ns i = ndAt ns j → i = j
theorem right_ok {x : Nd} {n : Nat} (h : x.right n = true) (hf : NdFit x) : NdOk x n := by
  unfold Nd.right aIn at h
  refine ⟨hf.2.1, fun hk => ?_, fun hk => ?_, fun hk => ?_⟩
  · rw [if_neg (by omega), if_neg (by omega), if_pos hk] at h
    simp only [Bool.and_eq_true, decide_eq_true_eq] at h
    omega
  · rw [if_neg (by omega), if_neg (by omega), if_neg (by omega), if_pos hk] at h
    simp only [Bool.and_eq_true, decide_eq_true_eq] at h
    omega
  · rw [if_neg (by omega), if_neg (by omega), if_neg (by omega), if_neg (by omega), if_pos hk] at h
    simp only [Bool.and_eq_true, decide_eq_true_eq] at h
    omega
theorem FineN.ok {ns : List Nd} (h : FineN ns) (j : Nat) (hj : j < ns.length) : NdOk (ndAt ns j) j := right_ok (h.1 j hj).1 (h.1 j hj).2
section
variable {AA : World → Value → List Nd → (Nat → Prop) → Prop}
end

end Go.Proofs.Ytjkcbojlopdonaa

/- bolterlaw09.Made, bolterref09.Nodes, bolterlaw09.awake: by what an arena does. -/
namespace Go.Proofs.Ytjkcbojlopdonaa
open Go.RowKit
set_option linter.unusedSimpArgs false
set_option linter.unusedVariables false
section
variable {AA : World → Value → List Nd → (Nat → Prop) → Prop}

end

end Go.Proofs.Ytjkcbojlopdonaa

/- Nodes in a row of the call's own, appended to; bolterref09.Nodes by what an arena does. -/
namespace Go.Proofs.Ytjkcbojlopdonaa
open Go.RowKit
set_option linter.unusedSimpArgs false
set_option linter.unusedVariables false

section
variable {w w' : World} {base : Nat} {v : Value} {l : List Nd}
end
section
variable {AA : World → Value → List Nd → (Nat → Prop) → Prop}

end

end Go.Proofs.Ytjkcbojlopdonaa

/- bolterlaw09.awake, by what an arena does. -/
namespace Go.Proofs.Ytjkcbojlopdonaa
open Go.RowKit
set_option linter.unusedSimpArgs false
set_option linter.unusedVariables false
section
variable {AA : World → Value → List Nd → (Nat → Prop) → Prop}

end

end Go.Proofs.Ytjkcbojlopdonaa

/- bolterlaw09.ArenaPuts, by what an arena does. -/
namespace Go.Proofs.Ytjkcbojlopdonaa
open Go.RowKit
set_option linter.unusedSimpArgs false
set_option linter.unusedVariables false

section
variable {AA : World → Value → List Nd → (Nat → Prop) → Prop}

end

end Go.Proofs.Ytjkcbojlopdonaa

/- A node as the key of a map; a map that tells the numbers of nodes. -/
namespace Go.Proofs.Ytjkcbojlopdonaa
open Go.RowKit Go.Maps
set_option linter.unusedSimpArgs false
set_option linter.unusedVariables false

end Go.Proofs.Ytjkcbojlopdonaa

/- What has turned: one step behind another. -/
namespace Go.Proofs.Ytjkcbojlopdonaa
open Go.RowKit
set_option linter.unusedVariables false

theorem OffF.then {F : Nat → Prop} {w w1 w2 : World} (h : OffF F w w1) (hb : Below w1.heap.size w1 w2) : OffF F w w2 :=
  ⟨hb.os.trans h.os, hb.tape.trans h.tape, hb.output.trans h.output, Nat.le_trans h.size hb.size, fun b hlt hn => (hb.block b (Nat.lt_of_lt_of_le hlt h.size)).trans (h.block b hlt hn)⟩
theorem OffF.off {F F' : Nat → Prop} {w w1 w2 : World} (h : OffF F w w1) (h2 : OffF F' w1 w2) (hF : ∀ b, F' b → F b ∨ w.heap.size ≤ b) : OffF F w w2 :=
  ⟨h2.os.trans h.os, h2.tape.trans h.tape, h2.output.trans h.output, Nat.le_trans h.size h2.size, fun b hlt hn => (h2.block b (Nat.lt_of_lt_of_le hlt h.size) (fun q => by
    rcases hF b q with c | c
    · exact hn c
    · omega)).trans (h.block b hlt hn)⟩
theorem OffF.grown {F : Nat → Prop} {w w1 w2 : World} {row : Option Nat} (h : OffF F w w1) (hg : w1.grownBy w2 row) (hr : ∀ b, row = some b → F b ∨ w.heap.size ≤ b) : OffF F w w2 :=
  ⟨hg.os.trans h.os, hg.tape.trans h.tape, hg.output.trans h.output, Nat.le_trans h.size hg.size, fun b hlt hn => (hg.block b (Nat.lt_of_lt_of_le hlt h.size) (fun e => by
    rcases hr b e.symm with c | c
    · exact hn c
    · omega)).trans (h.block b hlt hn)⟩
theorem OffF.set {F : Nat → Prop} {w w1 : World} {g i : Nat} (h : OffF F w w1) (hg : F g) (v : Value) : OffF F w (w1.setCell ⟨g, i, none⟩ v) :=
  ⟨h.os, h.tape, h.output, (by rw [World.size_setCell]; exact h.size), fun b hlt hn => by
    rw [Below.heap_setCell w1 ⟨g, i, none⟩ v b (fun e => hn (by rw [e]; exact hg))]
    exact h.block b hlt hn⟩

end Go.Proofs.Ytjkcbojlopdonaa

/- Steps and facts for an arena that keeps a row of nodes and a map of their numbers. -/
namespace Go.Proofs.Ytjkcbojlopdonaa
open Go.RowKit Go.Maps
set_option linter.unusedVariables false
set_option linter.unusedSimpArgs false

theorem results_row_tmp {P : Program} {fn : Func} {p u : Tmp} {ty : TypeId} (h : fn.results = #[.cell p ty, .tmp u]) (tmps : Array Value) (w : World) (g : Nat) (t : TypeId) (cs : Array Value) (fr : Nat × Nat) (d : TypeDesc)
    (hp : tmps.getD p undef = .pointer (some ⟨g, 0, none⟩)) (hg : w.heap[g]? = some (.cells cs t fr))
    (hu : P.underlying ty = some d) (hd : (match d with | .struct _ | .array _ _ => true | _ => false) = true) (hi : (P.info? ty).map (·.size) = some cs.size) :
    (results fn tmps).run P w = .ok (.tuple #[.agg cs, tmps.getD u undef]) w := by
  have hp' : tmps[p]?.getD undef = .pointer (some ⟨g, 0, none⟩) := by simpa using hp
  simp [results, h, hp', asAddr, run_loadVar_row w g t ty cs fr d hg hu hd hi]

section
variable {ops : Array Oper} {o : Oper} {a : Act} {w : World} {K : Act → World → Prop} {Q : Exit → Act → World → Prop} {X : Prop}
theorem stepq_value {P : Program} (hgd : o.guard = none) (v : Value) (w' : World) (hr : (execOp a.eval o).run P w = .ok (.value v) w') (h : K (a.put o.dst v) w') : if Region.wanted o (yielded ops a.tmps) = true then Oper.wp P o a w K Q else X := by
  have hw : Region.wanted o (yielded ops a.tmps) = true := by simp [Region.wanted, hgd]
  rw [if_pos hw]
  unfold Oper.wp
  rw [hr]
  exact h
theorem stepq_append {P : Program} (hgd : o.guard = none) (s x : Operand) (t : TypeId) (ho : o.op = .call { callee := .builtin .append, args := #[s, x], argTypes := #[t, t] }) (v1 v2 : Value) (hs : a.eval s = v1) (hx : a.eval x = v2) {R : Value → World → Prop}
    (hrun : ∃ v w', (Builtin.append_ #[t, t] o.type #[v1, v2]).run P w = .ok v w' ∧ R v w') (h : ∀ v w', R v w' → K (a.put o.dst v) w') : if Region.wanted o (yielded ops a.tmps) = true then Oper.wp P o a w K Q else X := by
  obtain ⟨v, w', hr, hR⟩ := hrun
  refine stepq_value hgd v w' ?_ (h v w' hR)
  unfold execOp
  simp only [ho, resolve, invoke, builtin, Sem.run_bind, Sem.run_pure, Result.andThen_ok, List.map_toArray, List.map_cons, List.map_nil, hs, hx, hr]
theorem stepq_slice1 (T E : TypeId) (cs : Array Value) (hgd : o.guard = none) (x : Operand) (u : Value) (ho : o.op = .buildSlice T 1 #[(0, x)]) (hx : a.eval x = u) (hrun : ∀ w, (Instr.buildSlice T 1 #[(0, u)]).run Try.prog w = .ok (.slice (some ⟨w.heap.size, 0, none⟩) 1 1) (w.alloc (.cells cs E)))
    (h : ∀ g w', At w' g E cs → Below w.heap.size w w' → w.heap.size ≤ g → K (a.put o.dst (.slice (some ⟨g, 0, none⟩) 1 1)) w') : if Region.wanted o (yielded ops a.tmps) = true then Oper.wp Try.prog o a w K Q else X := by
  refine stepq_value hgd (.slice (some ⟨w.heap.size, 0, none⟩) 1 1) (w.alloc (.cells cs E)) ?_ (h _ _ (At.new _ _ _) ((Below.refl _ _).alloc (Nat.le_refl _) _) (Nat.le_refl _))
  unfold execOp
  simp only [ho, List.map_toArray, List.map_cons, List.map_nil, hx, Sem.run_bind, hrun, Result.andThen_ok, Sem.run_pure]
end
end Go.Proofs.Ytjkcbojlopdonaa
