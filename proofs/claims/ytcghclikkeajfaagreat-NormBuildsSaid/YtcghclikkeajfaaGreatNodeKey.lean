/- A node as the key of a map; a map that tells the numbers of nodes. -/
import Derived.Test.YtcghclikkeajfaaGreatMe
import Derived.Test.YtcghclikkeajfaaGreatMK
import Derived.Maps.OwnSet
import Derived.DeepKeys4
namespace Go.Proofs.YtcghclikkeajfaaGreat
open Go.RowKit Go.Maps
set_option linter.unusedSimpArgs false
set_option linter.unusedVariables false

theorem laidOutK : laidOutB Tryz.prog = true := by kernel_rfl
theorem rowNode : (65 : TypeId) < Tryz.prog.types.size := of_decide_eq_true (by kernel_rfl)
theorem wideNode : (match Tryz.prog.underlying 65 with | some (.array _ _) | some (.struct _) => true | _ => false) = true := by kernel_rfl
theorem keyTypeNode : Tryz.prog.keyType 65 = true := by kernel_rfl
set_option maxRecDepth 100000 in
theorem lawNode : Keyed Tryz.prog 65 := Keyed.of_law (deep_law_laid laidOutK (m := 4) (by omega) rowNode (by kernel_rfl) wideNode)
theorem cellsNode : Tryz.prog.cellsOf 65 = 8 := by kernel_rfl
theorem cellsSetK : Tryz.prog.cellsOf 24 = 4 := by kernel_rfl
theorem cellsIntK : Tryz.prog.cellsOf 3 = 1 := by kernel_rfl
theorem cellsU64K : Tryz.prog.cellsOf 22 = 1 := by kernel_rfl
theorem cellsBoolK : Tryz.prog.cellsOf 4 = 1 := by kernel_rfl
theorem sizeK : 2 ≤ Tryz.prog.types.size := of_decide_eq_true (by kernel_rfl)
def Nd.lits (x : Nd) : List Lit := [.int .i64 x.kind, .int .u64 x.set.w0, .int .u64 x.set.w1, .int .u64 x.set.w2, .int .u64 x.set.w3, .int .i64 x.a, .int .i64 x.b, .bool x.neg]
def keyN (x : Nd) : Lit := .string (keyBytes x.lits)
theorem formedNode (x : Nd) : (Value.agg x.cs.toArray).formed Tryz.prog 65 = true := by
  simp [Value.formed, Tryz.underlying65, cellsNode, Nd.cs]
theorem lits_int (d : Nat) {z : Int} (h : I64 z) : Tryz.prog.keyLits (d + 1) 3 [.int .i64 z] = some [.int .i64 z] := by
  have hw : (Lit.int .i64 z).wf = true := WalkArith.wf_i64 (by unfold I64 at h; omega)
  simp [Program.keyLits, Tryz.underlying3, hw]
theorem lits_u64 (d : Nat) {z : Nat} (h : U64 z) : Tryz.prog.keyLits (d + 1) 22 [.int .u64 z] = some [.int .u64 z] := by
  have hw : (Lit.int .u64 z).wf = true := by unfold U64 at h; simp [Lit.wf, IntKind.min, IntKind.max, IntKind.signed, IntKind.bits]; omega
  simp [Program.keyLits, Tryz.underlying22, hw]
theorem lits_bool (d : Nat) (b : Bool) : Tryz.prog.keyLits (d + 1) 4 [.bool b] = some [.bool b] := by
  simp [Program.keyLits, Tryz.underlying4]
set_option maxRecDepth 100000 in
theorem lits_set (d : Nat) {s : St} (h : s.Ok) : Tryz.prog.keyLits (d + 2) 24 [.int .u64 s.w0, .int .u64 s.w1, .int .u64 s.w2, .int .u64 s.w3] = some [.int .u64 s.w0, .int .u64 s.w1, .int .u64 s.w2, .int .u64 s.w3] := by
  have h0 := lits_u64 d (h.word 0)
  have h1 := lits_u64 d (h.word 1)
  have h2 := lits_u64 d (h.word 2)
  have h3 := lits_u64 d (h.word 3)
  simp [St.word] at h0 h1 h2 h3
  unfold Program.keyLits
  simp only [Tryz.underlying24]
  rw [if_pos (by rw [cellsSetK]; rfl), cellsU64K]
  simp [List.range_succ, h0, h1, h2, h3]
set_option maxRecDepth 100000 in
theorem lits_node (d : Nat) {x : Nd} (h : NdFit x) : Tryz.prog.keyLits (d + 3) 65 x.cs = some x.lits := by
  have h0 := lits_int (d + 1) h.1
  have h1 := lits_set d h.2.1
  have h2 := lits_int (d + 1) h.2.2.1
  have h3 := lits_int (d + 1) h.2.2.2
  have h4 := lits_bool (d + 1) x.neg
  unfold Program.keyLits
  simp only [Tryz.underlying65]
  rw [if_pos (by rw [cellsNode]; exact ⟨rfl, by simp⟩)]
  simp [cellsSetK, cellsIntK, cellsBoolK, Nd.cs, Nd.lits, h0, h1, h2, h3, h4]
set_option maxRecDepth 100000 in
theorem keyNode (x : Nd) (h : NdFit x) : keyOf Tryz.prog 65 (.agg x.cs.toArray) = some (keyN x) := by
  have hl := lits_node (Tryz.prog.types.size - 2) h
  rw [show Tryz.prog.types.size - 2 + 3 = Tryz.prog.types.size + 1 by have := sizeK; omega] at hl
  unfold keyOf
  rw [Tryz.underlying65]
  show (if Tryz.prog.keyType 65 && (Value.agg x.cs.toArray).formed Tryz.prog 65 then _ else none) = _
  rw [keyTypeNode, formedNode]
  show (Tryz.prog.keyLits (Tryz.prog.types.size + 1) 65 (Value.agg x.cs.toArray).cells.toList).map _ = _
  rw [show (Value.agg x.cs.toArray).cells.toList = x.cs from rfl, hl]
  rfl
theorem cs_inj {x y : Nd} (h : x.cs = y.cs) : x = y := by
  obtain ⟨k, ⟨a0, a1, a2, a3⟩, a, b, n⟩ := x
  obtain ⟨k', ⟨b0, b1, b2, b3⟩, a', b', n'⟩ := y
  simp [Nd.cs] at h
  simp [h]
  omega
theorem keyN_inj {x y : Nd} (hx : NdFit x) (hy : NdFit y) (h : keyN x = keyN y) : x = y := by
  have e := lawNode.inj (keyNode x hx) (by rw [h]; exact keyNode y hy)
  injection e with e
  exact cs_inj (congrArg Array.toList e)
/-- Block b is a map of the nodes ns to their numbers. -/
def IdsAt (w : World) (b : Nat) (ns : List Nd) : Prop := ∃ D : DataW Unit, w.ownsMap Tryz.prog 65 (plainElem Tryz.prog 3) b ns.length D ∧
  ∀ x, NdFit x → has D (keyN x) = decide (findN ns x < ns.length) ∧ (findN ns x < ns.length → D.atKey (keyN x) (.lit (.int .i64 0)) = .lit (.int .i64 (findN ns x)))
theorem IdsAt.made (w : World) : IdsAt (w.alloc (.map #[] 0)) w.heap.size [] := ⟨_, World.ownsMap_made _ _ _ _, fun x _ => ⟨rfl, fun h => absurd h (Nat.not_lt_zero _)⟩⟩
theorem IdsAt.lt {w : World} {b : Nat} {ns : List Nd} (h : IdsAt w b ns) : b < w.heap.size := by obtain ⟨D, h1, _⟩ := h; exact h1.lt
theorem IdsAt.kept {w w' : World} {b : Nat} {ns : List Nd} (h : IdsAt w b ns) (hb : w'.heap[b]? = w.heap[b]?) : IdsAt w' b ns := by
  obtain ⟨D, ⟨es, clock, h1, h2⟩, h3⟩ := h
  exact ⟨D, ⟨es, clock, hb.trans h1, h2⟩, h3⟩
theorem findN_snoc (ns : List Nd) (y x : Nd) : findN (ns ++ [y]) x = if findN ns x < ns.length then findN ns x else if y.eqb x = true then ns.length else ns.length + 1 := by
  unfold findN
  rw [List.findIdx_append]
  split
  · rfl
  · have e : ns.findIdx (fun y => y.eqb x) = ns.length := by
      have := @List.findIdx_le_length Nd (fun y => y.eqb x) ns
      omega
    cases hb : y.eqb x with
    | true => simp [List.findIdx_cons, hb]
    | false => simp [List.findIdx_cons, hb]; omega
theorem IdsAt.push {w : World} {b : Nat} {ns : List Nd} {D : DataW Unit} {y : Nd} (hy : NdFit y) (hn : ¬ findN ns y < ns.length)
    (h : ∀ x, NdFit x → has D (keyN x) = decide (findN ns x < ns.length) ∧ (findN ns x < ns.length → D.atKey (keyN x) (.lit (.int .i64 0)) = .lit (.int .i64 (findN ns x)))) (hm : IsMap D)
    (hw : w.ownsMap Tryz.prog 65 (plainElem Tryz.prog 3) b (ns.length + 1) (D.put (keyN y) (.lit (.int .i64 ns.length)))) : IdsAt w b (ns ++ [y]) := by
  refine ⟨_, by rw [List.length_append]; exact hw, fun x hx => ?_⟩
  rw [findN_snoc, List.length_append, List.length_singleton]
  obtain ⟨h1, h2⟩ := h x hx
  by_cases e : y = x
  · subst e
    rw [if_neg hn, if_pos (Nd.eqb_self _)]
    refine ⟨?_, fun _ => ?_⟩
    · rw [has_put_same hm (lawNode.key (keyNode y hy))]; simp
    · rw [atKey_put_same hm (lawNode.key (keyNode y hy))]
  · have hk : keyN y ≠ keyN x := fun q => e (keyN_inj hy hx q)
    rw [if_neg (fun q => e ((Nd.eqb_iff _ _).1 q))]
    refine ⟨?_, ?_⟩
    · rw [has_put_other (fun q => hk q.symm), h1]
      by_cases hf : findN ns x < ns.length
      · rw [if_pos hf, decide_eq_true hf, decide_eq_true (by omega)]
      · rw [if_neg hf, decide_eq_false hf, decide_eq_false (by omega)]
    · intro hlt
      by_cases hf : findN ns x < ns.length
      · rw [if_pos hf, atKey_put_other (fun q => hk q.symm)]; exact h2 hf
      · rw [if_neg hf] at hlt; omega

theorem zeroIntK (w : World) : (zeroValue 3).run Tryz.prog w = .ok (.int .i64 0) w := by kernel_rfl
set_option maxRecDepth 100000 in
/-- 'id, ok := m[x]'. -/
theorem IdsAt.look {w : World} {m : Nat} {ns : List Nd} {x : Nd} (h : IdsAt w m ns) (hx : NdFit x) : (Instr.lookup 53 (.map (some m)) (.agg x.cs.toArray) true).run Tryz.prog w = .ok (.tuple #[.int .i64 (if findN ns x < ns.length then (findN ns x : Int) else 0), .bool (decide (findN ns x < ns.length))]) w := by
  obtain ⟨D, hown, hD⟩ := h
  obtain ⟨hh, ha⟩ := hD x hx
  obtain ⟨v, ps, hr, hv⟩ := hown.look_ok lawNode Tryz.underlying53 (zeroIntK w) (plainElem_int Tryz.underlying3 (by decide)) (keyNode x hx)
  obtain ⟨c, rfl, hc, _⟩ := plainElem_int_inv Tryz.underlying3 hv
  rw [hr, hh]
  have e := congrArg Prod.fst hc
  by_cases hlt : findN ns x < ns.length
  · rw [ha hlt] at e
    simp only [DataW.lit.injEq, Lit.int.injEq, true_and] at e
    rw [if_pos hlt, ← e]
  · have hn : has D (keyN x) = false := by rw [hh]; exact decide_eq_false hlt
    rw [atKey_of_not_has hn] at e
    simp only [DataW.lit.injEq, Lit.int.injEq, true_and] at e
    rw [if_neg hlt, ← e]
set_option maxRecDepth 100000 in
/-- 'm[x] = len'. -/
theorem IdsAt.store {w : World} {m : Nat} {ns : List Nd} {x : Nd} (h : IdsAt w m ns) (hx : NdFit x) (hl : ns.length ≤ 1000000) (hn : ¬ findN ns x < ns.length) : ∃ w', (Instr.mapUpdate 53 (.map (some m)) (.agg x.cs.toArray) (.int .i64 ns.length)).run Tryz.prog w = .ok () w' ∧ IdsAt w' m (ns ++ [x]) ∧ w.grownBy w' (some m) := by
  obtain ⟨D, hown, hD⟩ := h
  have hw : (Lit.int .i64 (ns.length : Int)).wf = true := WalkArith.wf_i64 (by omega)
  obtain ⟨w', hr, h1, h2⟩ := World.ownsMap.update (n := ns.length) (val := .int .i64 (ns.length : Int)) hown lawNode Tryz.underlying53 (show ns.length < maxLen by unfold maxLen; omega) (keyNode x hx) (plainElem_int (H := Unit) Tryz.underlying3 hw)
  exact ⟨w', hr, IdsAt.push hx hn hD hown.isMap h1, h2⟩

end Go.Proofs.YtcghclikkeajfaaGreat
