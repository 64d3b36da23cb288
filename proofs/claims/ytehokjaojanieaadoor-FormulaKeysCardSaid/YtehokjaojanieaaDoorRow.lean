/- Rows of classes: read whole, read by an index; blocks that stand behind a call. -/
import Derived.Test.YtehokjaojanieaaDoorWords
import Derived.Test.YtehokjaojanieaaDoorCl
namespace Go.Proofs.YtehokjaojanieaaDoor
open Go.RowKit

theorem ret_bool' {a b : Bool} (h : a = b) : Ending.returned (.bool a) = .returned (.bool b) := by rw [h]

theorem row_range (c : Cl) (w : World) (g : Nat) (t : TypeId) (h : At w g t c.cells) : w.rangeAt g 0 c.rowl := by
  intro j v hv
  unfold Cl.rowl at hv
  have hj : j < 256 := by
    have := (List.getElem?_eq_some_iff.1 hv).1
    simpa using this
  rw [Nat.zero_add, h.cell j, Cl.get c j hj, ← hv]
  simp [hj]
theorem run_index_row {P : Program} {T E : TypeId} (hu : P.underlying T = some (.array 256 E)) (hE : P.underlying E = some (.int .u8)) (hc : (P.info? E).map (·.size) = some 1) (c : Cl) (k : Nat) (hk : k < 256) (w : World) :
    (Instr.index T (.agg c.rowl.toArray) (.int .i64 (k : Nat))).run P w = .ok (.int .u8 (c.cl k : Nat)) w := by
  have hx : c.rowl.toArray[k]? = some (.int .u8 (c.cl k : Nat)) := by unfold Cl.rowl; simp [hk]
  cases hq : P.info? E with
  | none => simp [hq] at hc
  | some i =>
    have hs : i.size = 1 := by simpa [hq] using hc
    simp only [List.getElem?_toArray] at hx
    simp [Instr.index, run_underlying hu, asIntOf, part, isAgg, run_underlying hE, sizeOf, typeInfo, hq, hs, hx, hk]
theorem Cl.rowl_length (c : Cl) : c.rowl.length = 256 := by simp [Cl.rowl]
theorem wpList_load_row_want {P : Program} {ops : Array Oper} {rest : List Oper} {o : Oper} {a : Act} {w : World} {Q : Exit → Act → World → Prop} (hw : Region.wanted o (yielded ops a.tmps) = true) (ty : TypeId) (x : Operand) (ho : o.op = .load ty x)
    (g : Nat) (hx : a.eval x = .pointer (some ⟨g, 0, none⟩)) (t : TypeId) (cs : Array Value) (fr : Nat × Nat) (d : TypeDesc) (hg : w.heap[g]? = some (.cells cs t fr))
    (hu : P.underlying ty = some d) (hd : (match d with | .struct _ | .array _ _ => true | _ => false) = true) (hi : (P.info? ty).map (·.size) = some cs.size)
    (h : wpList P ops Q rest (a.put o.dst (.agg cs)) w) : wpList P ops Q (o :: rest) a w :=
  wpList_step fun K hK => by rw [if_pos hw]; exact wp_load_row ty x ho g hx t cs fr d hg hu hd hi (hK _ _ h)
theorem At.step {w w0 w' : World} {g : Nat} {t : TypeId} {cs : Array Value} (h : At w g t cs) (hb : Below w0.heap.size w0 w') (e : w0.heap = w.heap) : At w' g t cs := by
  have h0 : At w0 g t cs := by unfold At at h ⊢; rw [e]; exact h
  exact h0.below hb h0.lt

end Go.Proofs.YtehokjaojanieaaDoor
