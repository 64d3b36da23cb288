/- Steps and facts for an arena that keeps a row of nodes and a map of their numbers. -/
import Derived.Test.YtcghclikkeajfaaMe
import Derived.Test.YtcghclikkeajfaaLawPuts9
import Derived.Test.YtcghclikkeajfaaNodeKey
import Derived.Test.YtcghclikkeajfaaOffF
import Derived.Deep.RegionHeld3
import Derived.StillTailTactics
import Derived.Maps.AppendAt
namespace Go.Proofs.Ytcghclikkeajfaa
open Go.RowKit Go.Maps
set_option linter.unusedVariables false
set_option linter.unusedSimpArgs false

theorem results_row_tmp {P : Program} {fn : Func} {p u : Tmp} {ty : TypeId} (h : fn.results = #[.cell p ty, .tmp u]) (tmps : Array Value) (w : World) (g : Nat) (t : TypeId) (cs : Array Value) (fr : Nat × Nat) (d : TypeDesc)
    (hp : tmps.getD p undef = .pointer (some ⟨g, 0, none⟩)) (hg : w.heap[g]? = some (.cells cs t fr))
    (hu : P.underlying ty = some d) (hd : (match d with | .struct _ | .array _ _ => true | _ => false) = true) (hi : (P.info? ty).map (·.size) = some cs.size) :
    (results fn tmps).run P w = .ok (.tuple #[.agg cs, tmps.getD u undef]) w := by
  have hp' : tmps[p]?.getD undef = .pointer (some ⟨g, 0, none⟩) := by simpa using hp
  simp [results, h, hp', asAddr, run_loadVar_row w g t ty cs fr d hg hu hd hi]

theorem fine_put {ns : List Nd} {x : Nd} (hf : FineN ns) (hr : x.right ns.length = true) (hx : NdFit x) (hn : ¬ findN ns x < ns.length) : FineN (ns ++ [x]) := by
  have hl : (ns ++ [x]).length = ns.length + 1 := by rw [List.length_append]; rfl
  have hat : ∀ j, j < ns.length → ndAt (ns ++ [x]) j = ndAt ns j := fun j hj => by unfold ndAt; rw [List.getElem?_append_left hj]
  have hlast : ndAt (ns ++ [x]) ns.length = x := by unfold ndAt; rw [List.getElem?_append_right (Nat.le_refl _), Nat.sub_self]; rfl
  have hne : ∀ j, j < ns.length → ndAt ns j ≠ x := fun j hj e => hn (by
    rcases Nat.lt_or_ge (findN ns x) ns.length with h | h
    · exact h
    · have h1 := findN_not (ns := ns) (x := x) (t := j) (by omega)
      rw [e, Nd.eqb_self] at h1; cases h1)
  refine ⟨fun j hj => ?_, fun i j hi hj e => ?_⟩
  · rw [hl] at hj
    by_cases c : j < ns.length
    · rw [hat j c]; exact hf.1 j c
    · obtain rfl : j = ns.length := by omega
      rw [hlast]; exact ⟨hr, hx⟩
  · rw [hl] at hi hj
    by_cases c : i < ns.length
    · by_cases d : j < ns.length
      · rw [hat i c, hat j d] at e; exact hf.2 i j c d e
      · obtain rfl : j = ns.length := by omega
        rw [hat i c, hlast] at e; exact absurd e (hne i c)
    · obtain rfl : i = ns.length := by omega
      by_cases d : j < ns.length
      · rw [hlast, hat j d] at e; exact absurd e.symm (hne j d)
      · omega
section
variable {ops : Array Oper} {o : Oper} {a : Act} {w : World} {K : Act → World → Prop} {Q : Exit → Act → World → Prop} {X : Prop}
theorem stepq_value {P : Program} (hgd : o.guard = none) (v : Value) (w' : World) (hr : (execOp a.eval o).run P w = .ok (.value v) w') (h : K (a.put o.dst v) w') : if Region.wanted o (yielded ops a.tmps) = true then Oper.wp P o a w K Q else X := by
  have hw : Region.wanted o (yielded ops a.tmps) = true := by simp [Region.wanted, hgd]
  rw [if_pos hw]
  unfold Oper.wp
  rw [hr]
  exact h
theorem stepq_append {P : Program} (hgd : o.guard = none) (s x : Operand) (t : TypeId) (ho : o.op = .call { callee := .builtin .append, args := #[s, x], argTypes := #[t, t] }) (v1 v2 : Value) (hs : a.eval s = v1) (hx : a.eval x = v2) {R : Value → World → Prop}
    (hrun : ∃ v w', (Builtin.append_ #[t, t] o.type #[v1, v2]).run P w = .ok v w' ∧ R v w') (h : ∀ v w', R v w' → K (a.put o.dst v) w') : if Region.wanted o (yielded ops a.tmps) = true then Oper.wp P o a w K Q else X := by
  obtain ⟨v, w', hr, hR⟩ := hrun
  refine stepq_value hgd v w' ?_ (h v w' hR)
  unfold execOp
  simp only [ho, resolve, invoke, builtin, Sem.run_bind, Sem.run_pure, Result.andThen_ok, List.map_toArray, List.map_cons, List.map_nil, hs, hx, hr]
theorem stepq_slice1 (T E : TypeId) (cs : Array Value) (hgd : o.guard = none) (x : Operand) (u : Value) (ho : o.op = .buildSlice T 1 #[(0, x)]) (hx : a.eval x = u) (hrun : ∀ w, (Instr.buildSlice T 1 #[(0, u)]).run Try.prog w = .ok (.slice (some ⟨w.heap.size, 0, none⟩) 1 1) (w.alloc (.cells cs E)))
    (h : ∀ g w', At w' g E cs → Below w.heap.size w w' → w.heap.size ≤ g → K (a.put o.dst (.slice (some ⟨g, 0, none⟩) 1 1)) w') : if Region.wanted o (yielded ops a.tmps) = true then Oper.wp Try.prog o a w K Q else X := by
  refine stepq_value hgd (.slice (some ⟨w.heap.size, 0, none⟩) 1 1) (w.alloc (.cells cs E)) ?_ (h _ _ (At.new _ _ _) ((Below.refl _ _).alloc (Nat.le_refl _) _) (Nat.le_refl _))
  unfold execOp
  simp only [ho, List.map_toArray, List.map_cons, List.map_nil, hx, Sem.run_bind, hrun, Result.andThen_ok, Sem.run_pure]
theorem stepq_mapUpdate {P : Program} (hgd : o.guard = none) (mm x v : Operand) (t : TypeId) (hop : o.op = Op.mapUpdate t mm x v) (v1 v2 v3 : Value) (h1 : a.eval mm = v1) (h2 : a.eval x = v2) (h3 : a.eval v = v3) {R : World → Prop}
    (hrun : ∃ w', (Instr.mapUpdate t v1 v2 v3).run P w = .ok () w' ∧ R w') (h : ∀ w', R w' → K (a.put o.dst undef) w') : if Region.wanted o (yielded ops a.tmps) = true then Oper.wp P o a w K Q else X := by
  have hw : Region.wanted o (yielded ops a.tmps) = true := by simp [Region.wanted, hgd]
  rw [if_pos hw]
  obtain ⟨w', hr, hR⟩ := hrun
  unfold Oper.wp
  simp [execOp, hop, h1, h2, h3, hr, Result.andThen]
  exact h w' hR
end
theorem run_node1 (x : Nd) (w : World) : (Instr.buildSlice 39 1 #[(0, .agg #[.int .i64 x.kind, .int .u64 x.set.w0, .int .u64 x.set.w1, .int .u64 x.set.w2, .int .u64 x.set.w3, .int .i64 x.a, .int .i64 x.b, .bool x.neg])]).run Try.prog w = .ok (.slice (some ⟨w.heap.size, 0, none⟩) 1 1) (w.alloc (.cells x.cs.toArray 56)) := by kernel_rfl
theorem append_node (w : World) (v : Value) (ns : List Nd) (x : Nd) (g8 : Nat) (ty : TypeId) (h : NdRow w 0 v ns) (h8 : At w g8 56 x.cs.toArray) (hn : ns.length ≤ 100000) :
    ∃ v' w', (Builtin.append_ #[39, 39] ty #[v, .slice (some ⟨g8, 0, none⟩) 1 1]).run Try.prog w = .ok v' w' ∧ (NdRow w' 0 v' (ns ++ [x]) ∧ w.grownBy w' v.ownBlock ∧ (v'.ownBlock = v.ownBlock ∨ v'.ownBlock = some w.heap.size)) := by
  obtain ⟨i, hi, hz, hsz, hby⟩ := info_parts info_node
  obtain ⟨v', w', hr, q2, q3, _, q5⟩ := run_append_own_at (P := Try.prog) w 0 39 ty 56 i _ 8 64 Try.underlying39 hi hz hsz hby rfl (by omega) v ns.length (ndL ns) h ⟨g8, 0, none⟩ 1 1 x.cs rfl (World.news_of_block h8) (by simp [Nd.cs, Value.oneCell']) (by unfold maxLen; omega) (by omega) (Nat.zero_le _)
  exact ⟨v', w', hr, NdRow.push q2, q3, q5⟩
theorem at_rangeN {w : World} {g : Nat} {ty : TypeId} {x : Nd} (h : At w g ty x.cs.toArray) : w.rangeAt g 0 x.cs := fun j v hv => by
  rw [Nat.zero_add, h.cell]; simpa using hv
theorem NdRow.drewN {w : World} {b : Nat} {v : Value} {l : List Nd} (h : NdRow w b v l) (q : Nat) : NdRow (w.drewN q) b v l := h

end Go.Proofs.Ytcghclikkeajfaa
