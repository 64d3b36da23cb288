/- Joined: NodeKey, Seen, Known, FoA, FoB. -/
import Derived.Test.YthifbaacmohmnaaGreatMaf
import Derived.Test.YthifbaacmohmnaaGreatMae
import Derived.Maps.OwnSet
import Derived.DeepKeys4
import Derived.Test.YthifbaacmohmnaaGreatMak
import Derived.Test.YthifbaacmohmnaaGreatMal
import Derived.Test.YthifbaacmohmnaaGreatMah
import Derived.Test.YthifbaacmohmnaaGreatMai
/- A node as the key of a map; a map that tells the numbers of nodes. -/
namespace Go.Proofs.YthifbaacmohmnaaGreat
open Go.RowKit Go.Maps
set_option linter.unusedSimpArgs false
set_option linter.unusedVariables false

theorem laidOutK : laidOutB Tryz.prog = true := by kernel_rfl
theorem rowNode : (61 : TypeId) < Tryz.prog.types.size := of_decide_eq_true (by kernel_rfl)
theorem wideNode : (match Tryz.prog.underlying 61 with | some (.array _ _) | some (.struct _) => true | _ => false) = true := by kernel_rfl
theorem keyTypeNode : Tryz.prog.keyType 61 = true := by kernel_rfl
set_option maxRecDepth 100000 in
theorem lawNode : Keyed Tryz.prog 61 := Keyed.of_law (deep_law_laid laidOutK (m := 4) (by omega) rowNode (by kernel_rfl) wideNode)
theorem cellsNode : Tryz.prog.cellsOf 61 = 8 := by kernel_rfl
theorem cellsSetK : Tryz.prog.cellsOf 46 = 4 := by kernel_rfl
theorem cellsIntK : Tryz.prog.cellsOf 3 = 1 := by kernel_rfl
theorem cellsU64K : Tryz.prog.cellsOf 44 = 1 := by kernel_rfl
theorem cellsBoolK : Tryz.prog.cellsOf 4 = 1 := by kernel_rfl
theorem sizeK : 2 ≤ Tryz.prog.types.size := of_decide_eq_true (by kernel_rfl)
def Nd.lits (x : Nd) : List Lit := [.int .i64 x.kind, .int .u64 x.set.w0, .int .u64 x.set.w1, .int .u64 x.set.w2, .int .u64 x.set.w3, .int .i64 x.a, .int .i64 x.b, .bool x.neg]
def keyN (x : Nd) : Lit := .string (keyBytes x.lits)
theorem formedNode (x : Nd) : (Value.agg x.cs.toArray).formed Tryz.prog 61 = true := by
  simp [Value.formed, Tryz.underlying61, cellsNode, Nd.cs]
theorem lits_int (d : Nat) {z : Int} (h : I64 z) : Tryz.prog.keyLits (d + 1) 3 [.int .i64 z] = some [.int .i64 z] := by
  have hw : (Lit.int .i64 z).wf = true := WalkArith.wf_i64 (by unfold I64 at h; omega)
  simp [Program.keyLits, Tryz.underlying3, hw]
theorem lits_u64 (d : Nat) {z : Nat} (h : U64 z) : Tryz.prog.keyLits (d + 1) 44 [.int .u64 z] = some [.int .u64 z] := by
  have hw : (Lit.int .u64 z).wf = true := by unfold U64 at h; simp [Lit.wf, IntKind.min, IntKind.max, IntKind.signed, IntKind.bits]; omega
  simp [Program.keyLits, Tryz.underlying44, hw]
theorem lits_bool (d : Nat) (b : Bool) : Tryz.prog.keyLits (d + 1) 4 [.bool b] = some [.bool b] := by
  simp [Program.keyLits, Tryz.underlying4]
set_option maxRecDepth 100000 in
theorem lits_set (d : Nat) {s : St} (h : s.Ok) : Tryz.prog.keyLits (d + 2) 46 [.int .u64 s.w0, .int .u64 s.w1, .int .u64 s.w2, .int .u64 s.w3] = some [.int .u64 s.w0, .int .u64 s.w1, .int .u64 s.w2, .int .u64 s.w3] := by
  have h0 := lits_u64 d (h.word 0)
  have h1 := lits_u64 d (h.word 1)
  have h2 := lits_u64 d (h.word 2)
  have h3 := lits_u64 d (h.word 3)
  simp [St.word] at h0 h1 h2 h3
  unfold Program.keyLits
  simp only [Tryz.underlying46]
  rw [if_pos (by rw [cellsSetK]; rfl), cellsU64K]
  simp [List.range_succ, h0, h1, h2, h3]
set_option maxRecDepth 100000 in
theorem lits_node (d : Nat) {x : Nd} (h : NdFit x) : Tryz.prog.keyLits (d + 3) 61 x.cs = some x.lits := by
  have h0 := lits_int (d + 1) h.1
  have h1 := lits_set d h.2.1
  have h2 := lits_int (d + 1) h.2.2.1
  have h3 := lits_int (d + 1) h.2.2.2
  have h4 := lits_bool (d + 1) x.neg
  unfold Program.keyLits
  simp only [Tryz.underlying61]
  rw [if_pos (by rw [cellsNode]; exact ⟨rfl, by simp⟩)]
  simp [cellsSetK, cellsIntK, cellsBoolK, Nd.cs, Nd.lits, h0, h1, h2, h3, h4]
set_option maxRecDepth 100000 in
theorem keyNode (x : Nd) (h : NdFit x) : keyOf Tryz.prog 61 (.agg x.cs.toArray) = some (keyN x) := by
  have hl := lits_node (Tryz.prog.types.size - 2) h
  rw [show Tryz.prog.types.size - 2 + 3 = Tryz.prog.types.size + 1 by have := sizeK; omega] at hl
  unfold keyOf
  rw [Tryz.underlying61]
  show (if Tryz.prog.keyType 61 && (Value.agg x.cs.toArray).formed Tryz.prog 61 then _ else none) = _
  rw [keyTypeNode, formedNode]
  show (Tryz.prog.keyLits (Tryz.prog.types.size + 1) 61 (Value.agg x.cs.toArray).cells.toList).map _ = _
  rw [show (Value.agg x.cs.toArray).cells.toList = x.cs from rfl, hl]
  rfl
theorem cs_inj {x y : Nd} (h : x.cs = y.cs) : x = y := by
  obtain ⟨k, ⟨a0, a1, a2, a3⟩, a, b, n⟩ := x
  obtain ⟨k', ⟨b0, b1, b2, b3⟩, a', b', n'⟩ := y
  simp [Nd.cs] at h
  simp [h]
  omega
theorem keyN_inj {x y : Nd} (hx : NdFit x) (hy : NdFit y) (h : keyN x = keyN y) : x = y := by
  have e := lawNode.inj (keyNode x hx) (by rw [h]; exact keyNode y hy)
  injection e with e
  exact cs_inj (congrArg Array.toList e)
/-- Block b is a map of the nodes ns to their numbers. -/
def IdsAt (w : World) (b : Nat) (ns : List Nd) : Prop := ∃ D : DataW Unit, w.ownsMap Tryz.prog 61 (plainElem Tryz.prog 3) b ns.length D ∧
  ∀ x, NdFit x → has D (keyN x) = decide (findN ns x < ns.length) ∧ (findN ns x < ns.length → D.atKey (keyN x) (.lit (.int .i64 0)) = .lit (.int .i64 (findN ns x)))
theorem IdsAt.made (w : World) : IdsAt (w.alloc (.map #[] 0)) w.heap.size [] := ⟨_, World.ownsMap_made _ _ _ _, fun x _ => ⟨rfl, fun h => absurd h (Nat.not_lt_zero _)⟩⟩
theorem IdsAt.lt {w : World} {b : Nat} {ns : List Nd} (h : IdsAt w b ns) : b < w.heap.size := by obtain ⟨D, h1, _⟩ := h; exact h1.lt
theorem IdsAt.kept {w w' : World} {b : Nat} {ns : List Nd} (h : IdsAt w b ns) (hb : w'.heap[b]? = w.heap[b]?) : IdsAt w' b ns := by
  obtain ⟨D, ⟨es, clock, h1, h2⟩, h3⟩ := h
  exact ⟨D, ⟨es, clock, hb.trans h1, h2⟩, h3⟩
theorem findN_snoc (ns : List Nd) (y x : Nd) : findN (ns ++ [y]) x = if findN ns x < ns.length then findN ns x else if y.eqb x = true then ns.length else ns.length + 1 := by
  unfold findN
  rw [List.findIdx_append]
  split
  · rfl
  · have e : ns.findIdx (fun y => y.eqb x) = ns.length := by
      have := @List.findIdx_le_length Nd (fun y => y.eqb x) ns
      omega
    cases hb : y.eqb x with
    | true => simp [List.findIdx_cons, hb]
    | false => simp [List.findIdx_cons, hb]; omega
theorem IdsAt.push {w : World} {b : Nat} {ns : List Nd} {D : DataW Unit} {y : Nd} (hy : NdFit y) (hn : ¬ findN ns y < ns.length)
    (h : ∀ x, NdFit x → has D (keyN x) = decide (findN ns x < ns.length) ∧ (findN ns x < ns.length → D.atKey (keyN x) (.lit (.int .i64 0)) = .lit (.int .i64 (findN ns x)))) (hm : IsMap D)
    (hw : w.ownsMap Tryz.prog 61 (plainElem Tryz.prog 3) b (ns.length + 1) (D.put (keyN y) (.lit (.int .i64 ns.length)))) : IdsAt w b (ns ++ [y]) := by
  refine ⟨_, by rw [List.length_append]; exact hw, fun x hx => ?_⟩
  rw [findN_snoc, List.length_append, List.length_singleton]
  obtain ⟨h1, h2⟩ := h x hx
  by_cases e : y = x
  · subst e
    rw [if_neg hn, if_pos (Nd.eqb_self _)]
    refine ⟨?_, fun _ => ?_⟩
    · rw [has_put_same hm (lawNode.key (keyNode y hy))]; simp
    · rw [atKey_put_same hm (lawNode.key (keyNode y hy))]
  · have hk : keyN y ≠ keyN x := fun q => e (keyN_inj hy hx q)
    rw [if_neg (fun q => e ((Nd.eqb_iff _ _).1 q))]
    refine ⟨?_, ?_⟩
    · rw [has_put_other (fun q => hk q.symm), h1]
      by_cases hf : findN ns x < ns.length
      · rw [if_pos hf, decide_eq_true hf, decide_eq_true (by omega)]
      · rw [if_neg hf, decide_eq_false hf, decide_eq_false (by omega)]
    · intro hlt
      by_cases hf : findN ns x < ns.length
      · rw [if_pos hf, atKey_put_other (fun q => hk q.symm)]; exact h2 hf
      · rw [if_neg hf] at hlt; omega

theorem zeroIntK (w : World) : (zeroValue 3).run Tryz.prog w = .ok (.int .i64 0) w := by kernel_rfl
set_option maxRecDepth 100000 in
/-- 'id, ok := m[x]'. -/
theorem IdsAt.look {w : World} {m : Nat} {ns : List Nd} {x : Nd} (h : IdsAt w m ns) (hx : NdFit x) : (Instr.lookup 67 (.map (some m)) (.agg x.cs.toArray) true).run Tryz.prog w = .ok (.tuple #[.int .i64 (if findN ns x < ns.length then (findN ns x : Int) else 0), .bool (decide (findN ns x < ns.length))]) w := by
  obtain ⟨D, hown, hD⟩ := h
  obtain ⟨hh, ha⟩ := hD x hx
  obtain ⟨v, ps, hr, hv⟩ := hown.look_ok lawNode Tryz.underlying67 (zeroIntK w) (plainElem_int Tryz.underlying3 (by decide)) (keyNode x hx)
  obtain ⟨c, rfl, hc, _⟩ := plainElem_int_inv Tryz.underlying3 hv
  rw [hr, hh]
  have e := congrArg Prod.fst hc
  by_cases hlt : findN ns x < ns.length
  · rw [ha hlt] at e
    simp only [DataW.lit.injEq, Lit.int.injEq, true_and] at e
    rw [if_pos hlt, ← e]
  · have hn : has D (keyN x) = false := by rw [hh]; exact decide_eq_false hlt
    rw [atKey_of_not_has hn] at e
    simp only [DataW.lit.injEq, Lit.int.injEq, true_and] at e
    rw [if_neg hlt, ← e]
set_option maxRecDepth 100000 in
/-- 'm[x] = len'. -/
theorem IdsAt.store {w : World} {m : Nat} {ns : List Nd} {x : Nd} (h : IdsAt w m ns) (hx : NdFit x) (hl : ns.length ≤ 1000000) (hn : ¬ findN ns x < ns.length) : ∃ w', (Instr.mapUpdate 67 (.map (some m)) (.agg x.cs.toArray) (.int .i64 ns.length)).run Tryz.prog w = .ok () w' ∧ IdsAt w' m (ns ++ [x]) ∧ w.grownBy w' (some m) := by
  obtain ⟨D, hown, hD⟩ := h
  have hw : (Lit.int .i64 (ns.length : Int)).wf = true := WalkArith.wf_i64 (by omega)
  obtain ⟨w', hr, h1, h2⟩ := World.ownsMap.update (n := ns.length) (val := .int .i64 (ns.length : Int)) hown lawNode Tryz.underlying67 (show ns.length < maxLen by unfold maxLen; omega) (keyNode x hx) (plainElem_int (H := Unit) Tryz.underlying3 hw)
  exact ⟨w', hr, IdsAt.push hx hn hD hown.isMap h1, h2⟩

end Go.Proofs.YthifbaacmohmnaaGreat

/- A map of whole numbers that are there. -/
namespace Go.Proofs.YthifbaacmohmnaaGreat
open Go.RowKit Go.Maps
set_option linter.unusedSimpArgs false
set_option linter.unusedVariables false

theorem keyedInt : Keyed Tryz.prog 3 := Maps.int_keyed Tryz.underlying3
theorem keyInt {x : Int} (h : I64 x) : keyOf Tryz.prog 3 (.int .i64 x) = some (.int .i64 x) := Maps.keyOf_int_mk Tryz.underlying3 (WalkArith.wf_i64 (by unfold I64 at h; omega))
/-- How what has no parts reads. -/
def unitR : Value → Option (DataW Unit × List MemPlace)
  | .agg ⟨[]⟩ => some (.agg [], [])
  | _ => none
theorem unitR_is {v : Value} {z : DataW Unit × List MemPlace} (h : unitR v = some z) : v = .agg #[] := by
  unfold unitR at h
  split at h
  · rfl
  · cases h
def SeenAt (w : World) (b n : Nat) (s : List Int) : Prop := ∃ D : DataW Unit, w.ownsMap Tryz.prog 3 unitR b n D ∧ ∀ x, I64 x → has D (.int .i64 x) = decide (x ∈ s)
theorem SeenAt.made (w : World) : SeenAt (w.alloc (.map #[] 0)) w.heap.size 0 [] := ⟨_, World.ownsMap_made _ _ _ _, fun x _ => (show false = decide (x ∈ ([] : List Int)) by simp)⟩
theorem SeenAt.lt {w : World} {b n : Nat} {s : List Int} (h : SeenAt w b n s) : b < w.heap.size := by obtain ⟨D, h1, _⟩ := h; exact h1.lt
theorem SeenAt.kept {w w' : World} {b n : Nat} {s : List Int} (h : SeenAt w b n s) (hb : w'.heap[b]? = w.heap[b]?) : SeenAt w' b n s := by
  obtain ⟨D, ⟨es, clock, h1, h2⟩, h3⟩ := h
  exact ⟨D, ⟨es, clock, hb.trans h1, h2⟩, h3⟩
theorem zeroUnit (w : World) : (zeroValue 111).run Tryz.prog w = .ok (.agg #[]) w := by kernel_rfl
theorem look_no (w : World) {x : Int} (hx : I64 x) : (Instr.lookup 110 (.map none) (.int .i64 x) true).run Tryz.prog w = .ok (.tuple #[.agg #[], .bool false]) w :=
  Maps.look_nil true keyedInt Tryz.underlying110 (zeroUnit w) (keyInt hx)
theorem SeenAt.look {w : World} {b n : Nat} {s : List Int} {x : Int} (h : SeenAt w b n s) (hx : I64 x) : (Instr.lookup 110 (.map (some b)) (.int .i64 x) true).run Tryz.prog w = .ok (.tuple #[.agg #[], .bool (decide (x ∈ s))]) w := by
  obtain ⟨D, hown, hD⟩ := h
  obtain ⟨v, ps, hr, hv⟩ := hown.look_ok keyedInt Tryz.underlying110 (zeroUnit w) (zd := .agg []) (zp := []) rfl (keyInt hx)
  rw [hr, hD x hx, unitR_is hv]
theorem SeenAt.store {w : World} {b n : Nat} {s : List Int} {x : Int} (h : SeenAt w b n s) (hx : I64 x) (hn : n ≤ 1000000) : ∃ w', (Instr.mapUpdate 110 (.map (some b)) (.int .i64 x) (.agg #[])).run Tryz.prog w = .ok () w' ∧ SeenAt w' b (n + 1) (x :: s) ∧ w.grownBy w' (some b) := by
  obtain ⟨D, hown, hD⟩ := h
  obtain ⟨w', hr, h1, h2⟩ := World.ownsMap.update (val := .agg #[]) (d := .agg []) (ps := []) hown keyedInt Tryz.underlying110 (show n < maxLen by unfold maxLen; omega) (keyInt hx) rfl
  refine ⟨w', hr, ⟨_, h1, fun y hy => ?_⟩, h2⟩
  by_cases e : x = y
  · subst e
    rw [has_put_same hown.isMap (keyedInt.key (keyInt hx))]; simp
  · have hk : (Lit.int .i64 y) ≠ Lit.int .i64 x := fun q => by injection q with _ q; exact e q.symm
    rw [has_put_other hk, hD y hy]
    by_cases hm : y ∈ s
    · rw [decide_eq_true hm, decide_eq_true (List.mem_cons_of_mem _ hm)]
    · rw [decide_eq_false hm, decide_eq_false (fun q => by rcases List.mem_cons.1 q with q | q; exact e q.symm; exact hm q)]

end Go.Proofs.YthifbaacmohmnaaGreat

/- A map of nodes that are known to match nothing, or not; a place of an input. -/
namespace Go.Proofs.YthifbaacmohmnaaGreat
open Go.RowKit Go.Maps
set_option linter.unusedSimpArgs false
set_option linter.unusedVariables false

/-- How an answer reads. -/
def ansR : Value → Option (DataW Unit × List MemPlace)
  | .agg ⟨[.bool b]⟩ => some (.lit (.bool b), [])
  | _ => none
theorem ansR_is {v : Value} {b : Bool} {ps : List MemPlace} (h : ansR v = some (.lit (.bool b), ps)) : v = .agg #[.bool b] := by
  unfold ansR at h
  split at h
  · injection h with h
    injection h with h _
    injection h with h
    injection h with h
    rw [h]
  · cases h
def KnownAt (w : World) (b : Nat) (f : Int → Bool) (s : List Int) : Prop := ∃ D : DataW Unit, w.ownsMap Tryz.prog 3 ansR b s.length D ∧ ∀ x, I64 x → has D (.int .i64 x) = decide (x ∈ s) ∧ (x ∈ s → D.atKey (.int .i64 x) (.lit (.bool false)) = .lit (.bool (f x)))
theorem KnownAt.made (w : World) (f : Int → Bool) : KnownAt (w.alloc (.map #[] 0)) w.heap.size f [] := ⟨_, World.ownsMap_made _ _ _ _, fun x _ => ⟨(show false = decide (x ∈ ([] : List Int)) by simp), fun h => by cases h⟩⟩
theorem KnownAt.lt {w : World} {b : Nat} {f : Int → Bool} {s : List Int} (h : KnownAt w b f s) : b < w.heap.size := by obtain ⟨D, h1, _⟩ := h; exact h1.lt
theorem KnownAt.kept {w w' : World} {b : Nat} {f : Int → Bool} {s : List Int} (h : KnownAt w b f s) (hb : w'.heap[b]? = w.heap[b]?) : KnownAt w' b f s := by
  obtain ⟨D, ⟨es, clock, h1, h2⟩, h3⟩ := h
  exact ⟨D, ⟨es, clock, hb.trans h1, h2⟩, h3⟩
theorem zeroAns (w : World) : (zeroValue 200).run Tryz.prog w = .ok (.agg #[.bool false]) w := by kernel_rfl
theorem KnownAt.look {w : World} {b : Nat} {f : Int → Bool} {s : List Int} {x : Int} (h : KnownAt w b f s) (hx : I64 x) : (Instr.lookup 142 (.map (some b)) (.int .i64 x) true).run Tryz.prog w = .ok (.tuple #[.agg #[.bool (decide (x ∈ s) && f x)], .bool (decide (x ∈ s))]) w := by
  obtain ⟨D, hown, hD⟩ := h
  obtain ⟨h1, h2⟩ := hD x hx
  obtain ⟨v, ps, hr, hv⟩ := hown.look_ok keyedInt Tryz.underlying142 (zeroAns w) (zd := .lit (.bool false)) (zp := []) rfl (keyInt hx)
  rw [hr, h1]
  by_cases e : x ∈ s
  · rw [h2 e] at hv
    rw [ansR_is hv, decide_eq_true e, Bool.true_and]
  · rw [atKey_of_not_has (by rw [h1]; exact decide_eq_false e)] at hv
    rw [ansR_is hv, decide_eq_false e, Bool.false_and]
theorem KnownAt.store {w : World} {b : Nat} {f : Int → Bool} {s : List Int} {x : Int} {v : Bool} (h : KnownAt w b f s) (hx : I64 x) (hv : v = f x) (hn : s.length ≤ 1000000) : ∃ w', (Instr.mapUpdate 142 (.map (some b)) (.int .i64 x) (.agg #[.bool v])).run Tryz.prog w = .ok () w' ∧ KnownAt w' b f (x :: s) ∧ w.grownBy w' (some b) := by
  obtain ⟨D, hown, hD⟩ := h
  obtain ⟨w', hr, h1, h2⟩ := World.ownsMap.update (val := .agg #[.bool v]) (d := .lit (.bool v)) (ps := []) hown keyedInt Tryz.underlying142 (show s.length < maxLen by unfold maxLen; omega) (keyInt hx) rfl
  refine ⟨w', hr, ⟨_, h1, fun y hy => ?_⟩, h2⟩
  by_cases e : x = y
  · subst e
    rw [has_put_same hown.isMap (keyedInt.key (keyInt hx)), atKey_put_same hown.isMap (keyedInt.key (keyInt hx)), hv]
    exact ⟨by simp, fun _ => rfl⟩
  · have hk : (Lit.int .i64 y) ≠ Lit.int .i64 x := fun q => by injection q with _ q; exact e q.symm
    obtain ⟨q1, q2⟩ := hD y hy
    rw [has_put_other hk, q1, atKey_put_other hk]
    refine ⟨?_, fun q => q2 ?_⟩
    · by_cases hm : y ∈ s
      · rw [decide_eq_true hm, decide_eq_true (List.mem_cons_of_mem _ hm)]
      · rw [decide_eq_false hm, decide_eq_false (fun q => by rcases List.mem_cons.1 q with q | q; exact e q.symm; exact hm q)]
    · rcases List.mem_cons.1 q with q | q
      · exact absurd q.symm e
      · exact q
theorem nodup_room {n : Nat} : ∀ {s m : List Int}, s.Nodup → (∀ z ∈ s, z ∈ m) → s.length ≤ m.length
  | [], _, _, _ => Nat.zero_le _
  | x :: s, m, hp, h => by
    obtain ⟨h1, h2⟩ := List.nodup_cons.1 hp
    have hx : x ∈ m := h x (by simp)
    have ih := nodup_room (n := n) (m := m.erase x) h2 (fun z hz => (List.mem_erase_of_ne (fun e => h1 (by rw [← e]; exact hz))).2 (h z (List.mem_cons_of_mem _ hz)))
    have := List.length_erase_of_mem hx
    have hpos : 0 < m.length := List.length_pos_of_mem hx
    rw [List.length_cons]
    omega
theorem nodup_in {n : Nat} {s : List Int} (hp : s.Nodup) (h : ∀ z ∈ s, 0 ≤ z ∧ z < (n : Int)) : s.length ≤ n := by
  have := nodup_room (n := n) (m := (List.range n).map Int.ofNat) hp (fun z hz => by
    obtain ⟨h0, h1⟩ := h z hz
    exact List.mem_map.2 ⟨z.toNat, List.mem_range.2 (by omega), by show ((z.toNat : Nat) : Int) = z; omega⟩)
  simpa using this
/-- Block g holds a place, its map in block m: of the nodes in s is known whether they match nothing. -/
structure PlaceAt (w : World) (a : Value) (ns : List Nd) (bits g m : Nat) (s : List Int) : Prop where
  box : At w g 144 #[a, .int .u8 bits, .map (some m)]
  ids : KnownAt w m (nullS ns bits) s
  ne : g ≠ m
  nodup : s.Nodup
  inn : ∀ z ∈ s, isIn ns z
theorem PlaceAt.kept {w w' : World} {a : Value} {ns : List Nd} {bits g m : Nat} {s : List Int} (h : PlaceAt w a ns bits g m s) (hg : w'.heap[g]? = w.heap[g]?) (hm : w'.heap[m]? = w.heap[m]?) : PlaceAt w' a ns bits g m s :=
  ⟨hg.trans h.box, h.ids.kept hm, h.ne, h.nodup, h.inn⟩
theorem PlaceAt.next {w w' : World} {a : Value} {ns : List Nd} {bits g m : Nat} {s : List Int} (h : PlaceAt w a ns bits g m s) (hb : Below w.heap.size w w') : PlaceAt w' a ns bits g m s := h.kept (hb.block _ h.box.lt) (hb.block _ h.ids.lt)
theorem PlaceAt.room {w : World} {a : Value} {ns : List Nd} {bits g m : Nat} {s : List Int} (h : PlaceAt w a ns bits g m s) : s.length ≤ ns.length := nodup_in h.nodup h.inn

end Go.Proofs.YthifbaacmohmnaaGreat

/- package formula: rises, inOrder; slices.Compare, cmp.Compare. -/
namespace Go.Proofs.YthifbaacmohmnaaGreat
open Go.RowKit
set_option linter.unusedVariables false
set_option linter.unusedSimpArgs false

def cmpI (x y : Int) : Int := if x < y then -1 else if y < x then 1 else 0
def cmpL : List Int → List Int → Int
  | [], [] => 0
  | [], _ :: _ => -1
  | _ :: _, [] => 1
  | x :: a, y :: b => if cmpI x y = 0 then cmpL a b else cmpI x y
def ordS (a b : List Int) : Int := if a.length = b.length then cmpL a b else cmpI a.length b.length
theorem cmpL_lt : ∀ (a b : List Int), a.length = b.length → (cmpL a b < 0 ↔ lexS a b = true)
  | [], [], _ => by simp [cmpL, lexS]
  | x :: a, y :: b, h => by
    have ih := cmpL_lt a b (by simpa using h)
    unfold cmpL lexS cmpI
    by_cases h1 : x < y
    · have : ¬ x = y := by omega
      simp [h1, this]
    · by_cases h2 : y < x
      · have : ¬ x = y := by omega
        simp [h1, h2, this]
      · have : x = y := by omega
        subst this
        simp [ih]
theorem ord_lt {a b : List Int} : ordS a b < 0 ↔ lessS a b = true := by
  unfold ordS lessS
  by_cases h : a.length = b.length
  · rw [if_pos h, if_pos h]; exact cmpL_lt a b h
  · rw [if_neg h, if_neg h]
    unfold cmpI
    by_cases h1 : (a.length : Int) < b.length
    · rw [if_pos h1, decide_eq_true (by omega : a.length < b.length)]; simp
    · rw [if_neg h1, decide_eq_false (by omega : ¬ a.length < b.length)]
      by_cases h2 : (b.length : Int) < a.length
      · rw [if_pos h2]; simp
      · omega
theorem cmp_step {a b : List Int} {i : Nat} (ha : i < a.length) (hb : i < b.length) : cmpL (a.drop i) (b.drop i) = if cmpI (inAt a i) (inAt b i) = 0 then cmpL (a.drop (i + 1)) (b.drop (i + 1)) else cmpI (inAt a i) (inAt b i) := by
  rw [drop_at a i ha, drop_at b i hb]; rfl

set_option maxRecDepth 100000 in
set_option maxHeartbeats 2000000 in
theorem fCmp (x y : Int) (w : World) : Calls Tryz.prog 137 #[.int .i64 x, .int .i64 y] w fun e w' => e = .returned (.int .i64 (cmpI x y)) ∧ w' = w := by
  have hx : (x != x) = false := by simp
  have hy : (y != y) = false := by simp
  go_enter Tryz.func137, Tryz.ntmps137
  by_cases h1 : x < y
  · have HE : Hid (cmpI x y = -1) := Lib.hid (by unfold cmpI; rw [if_pos h1])
    go_wp2_with go_in
    all_goals (go_ret; exact ⟨by rw [HE.out]; rfl, rfl⟩)
  · by_cases h2 : y < x
    · have h2' : x > y := h2
      have HE : Hid (cmpI x y = 1) := Lib.hid (by unfold cmpI; rw [if_neg h1, if_pos h2])
      go_wp2_with go_in
      all_goals (go_ret; exact ⟨by rw [HE.out]; rfl, rfl⟩)
    · have h2' : ¬ x > y := h2
      have HE : Hid (cmpI x y = 0) := Lib.hid (by unfold cmpI; rw [if_neg h1, if_neg h2])
      go_wp2_with go_in
      all_goals (go_ret; exact ⟨by rw [HE.out]; rfl, rfl⟩)

set_option maxRecDepth 100000 in
set_option maxHeartbeats 2000000 in
theorem fCompare (a b : List Int) (A B : Option Addr) (n c m d : Nat) (w : World) (h : IntsAt w (.slice A n c) a) (h' : IntsAt w (.slice B m d) b) :
    Calls Tryz.prog 138 #[.slice A n c, .slice B m d] w fun e w' => e = .returned (.int .i64 (cmpL a b)) ∧ w' = w := by
  have HI := Lib.hid h
  have HJ := Lib.hid h'
  have hm := h.max
  have hm' := h'.max
  obtain rfl := h.len
  obtain rfl := h'.len
  clear h h'
  go_enter Tryz.func138, Tryz.ntmps138
  go_wp2_with fail
  go_loopw [11] (fun v wr => ∃ i : Nat, i ≤ a.length ∧ i ≤ b.length ∧ v = .int .i64 i ∧ w = wr ∧ Hid (cmpL a b = cmpL (a.drop i) (b.drop i))) (fun v _ => a.length - (intOf v).toNat)
  case atStart => exact ⟨0, Nat.zero_le _, Nat.zero_le _, rfl, rfl, Lib.hid rfl⟩
  case round =>
    obtain ⟨i, hi, hib, rfl, rfl, HN⟩ := hrel
    by_cases hlt : i < a.length
    · have h1 : (0 : Int) ≤ (i : Int) := by omega
      have h2 : (i : Int) < (a.length : Int) := by omega
      obtain ⟨ba, oa, rfl, _, q1⟩ := HI.out.at i hlt
      by_cases hlb : i < b.length
      · have h3 : (i : Int) < (b.length : Int) := by omega
        have h4 : ¬ ((b.length : Int) ≤ (i : Int)) := by omega
        have h4' : ¬ ((i : Int) ≥ (b.length : Int)) := by omega
        obtain ⟨bb, ob, rfl, _, q2⟩ := HJ.out.at i hlb
        have hst := Lib.hid (HN.out.trans (cmp_step hlt hlb))
        obtain ⟨x, hx⟩ : ∃ x, inAt a i = x := ⟨_, rfl⟩
        obtain ⟨y, hy⟩ : ∃ y, inAt b i = y := ⟨_, rfl⟩
        rw [hx] at q1 hst
        rw [hy] at q2 hst
        clear hx hy
        obtain ⟨z, hz⟩ : ∃ z, cmpI x y = z := ⟨_, rfl⟩
        have HZ := Lib.hid hz
        clear hz
        by_cases hz0 : z = 0
        · have hz1 : (z != 0) = false := by simp [hz0]
          go_wp2_with fail
          refine (fCmp x y _).mono ?_
          rintro e w3 ⟨rfl, rfl⟩
          rw [HZ.out]
          go_wp2_with fail
          refine ⟨⟨i + 1, by omega, by omega, by go_num, by first | rfl | trivial, Lib.hid (by have := hst.out; rwa [HZ.out, if_pos hz0] at this)⟩, by simp [intOf]; omega⟩
        · have hz1 : (z != 0) = true := by simp [hz0]
          go_wp2_with fail
          refine (fCmp x y _).mono ?_
          rintro e w3 ⟨rfl, rfl⟩
          rw [HZ.out]
          go_wp2_with fail
          go_ret
          refine ⟨?_, rfl⟩
          have := hst.out
          rw [HZ.out, if_neg hz0] at this
          rw [this]; rfl
      · obtain rfl : i = b.length := by omega
        have h4' : (b.length : Int) ≥ (b.length : Int) := by omega
        go_wp2_with fail
        go_ret
        refine ⟨?_, rfl⟩
        rw [HN.out, drop_at a _ hlt, List.drop_length]; rfl
    · obtain rfl : i = a.length := by omega
      have hN : Hid (cmpL a b = cmpL [] (b.drop a.length)) := Lib.hid (by have := HN.out; rwa [List.drop_length] at this)
      by_cases hlb : a.length < b.length
      · have h3 : (a.length : Int) < (b.length : Int) := by omega
        go_wp2_with fail
        go_ret
        refine ⟨?_, rfl⟩
        rw [hN.out, drop_at b _ hlb]; rfl
      · have h3 : ¬ ((a.length : Int) < (b.length : Int)) := by omega
        have he : Hid (cmpL a b = 0) := Lib.hid (by rw [hN.out, show a.length = b.length by omega, List.drop_length]; rfl)
        go_wp2_with fail
        go_ret
        exact ⟨by rw [he.out]; rfl, rfl⟩

set_option maxRecDepth 100000 in
set_option maxHeartbeats 2000000 in
theorem fOrd (a b : List Int) (A B : Option Addr) (n c m d : Nat) (w : World) (h : IntsAt w (.slice A n c) a) (h' : IntsAt w (.slice B m d) b) :
    Calls Tryz.prog 99 #[.slice A n c, .slice B m d] w fun e w' => e = .returned (.int .i64 (ordS a b)) ∧ w' = w := by
  have HI := Lib.hid h
  have HJ := Lib.hid h'
  have hm := h.max
  have hm' := h'.max
  obtain rfl := h.len
  obtain rfl := h'.len
  clear h h'
  go_enter Tryz.func99, Tryz.ntmps99
  unfold ordS
  by_cases hl : a.length = b.length
  · have h1 : ((a.length : Int) != (b.length : Int)) = false := by simp [hl]
    rw [if_pos hl]
    have HL := Lib.hid hl
    clear hl
    go_wp2_with fail
    refine (fCompare a b A B _ c _ d _ HI.out HJ.out).mono ?_
    rintro e w3 ⟨rfl, rfl⟩
    go_wp2_with fail
    go_ret
    exact ⟨rfl, rfl⟩
  · have h1 : ((a.length : Int) != (b.length : Int)) = true := by simp; omega
    rw [if_neg hl]
    go_wp2_with fail
    refine (fCmp _ _ _).mono ?_
    rintro e w3 ⟨rfl, rfl⟩
    go_wp2_with fail
    go_ret
    exact ⟨rfl, rfl⟩

/-- The numbers rise, from 0 or more on. -/
def upS : Int → List Int → Bool
  | _, [] => true
  | l, x :: r => decide (l < x) && upS x r
theorem up_iff : ∀ (l : Int) (p : List Int), upS l p = true ↔ Up p ∧ ∀ x ∈ p, l < x
  | l, [] => by simp [upS, Up]
  | l, x :: r => by
    unfold upS
    rw [Bool.and_eq_true, up_iff x r]
    unfold Up
    rw [List.pairwise_cons]
    simp only [decide_eq_true_eq, List.mem_cons, forall_eq_or_imp]
    constructor
    · rintro ⟨h, h1, h2⟩; exact ⟨⟨h2, h1⟩, h, fun y hy => by have := h2 y hy; omega⟩
    · rintro ⟨⟨h2, h1⟩, h, h3⟩; exact ⟨h, h1, h2⟩

set_option maxRecDepth 100000 in
set_option maxHeartbeats 2000000 in
theorem fRises (a : List Int) (A : Option Addr) (n c : Nat) (w : World) (h : IntsAt w (.slice A n c) a) :
    Calls Tryz.prog 98 #[.slice A n c] w fun e w' => e = .returned (.bool (upS (-1) a)) ∧ w' = w := by
  have HI := Lib.hid h
  have hm := h.max
  obtain rfl := h.len
  clear h
  go_enter Tryz.func98, Tryz.ntmps98
  go_wp2_with fail
  go_loopw [3, 8] (fun u v wr => ∃ (i : Nat) (l : Int), i ≤ a.length ∧ v = .int .i64 i ∧ u = .int .i64 l ∧ w = wr ∧ Hid (upS (-1) a = upS l (a.drop i))) (fun _ v _ => a.length - (intOf v).toNat)
  case atStart => exact ⟨0, -1, Nat.zero_le _, rfl, rfl, rfl, Lib.hid rfl⟩
  case round =>
    obtain ⟨i, l, hi, rfl, rfl, rfl, HN⟩ := hrel
    by_cases hlt : i < a.length
    · have h1 : (0 : Int) ≤ (i : Int) := by omega
      have h2 : (i : Int) < (a.length : Int) := by omega
      obtain ⟨ba, oa, rfl, _, q1⟩ := HI.out.at i hlt
      have hst : Hid (upS (-1) a = (decide (l < inAt a i) && upS (inAt a i) (a.drop (i + 1)))) := Lib.hid (by rw [HN.out, drop_at a i hlt]; rfl)
      obtain ⟨x, hx⟩ : ∃ x, inAt a i = x := ⟨_, rfl⟩
      rw [hx] at q1 hst
      clear hx
      by_cases hz : l < x
      · have h3 : ¬ (x ≤ l) := by omega
        go_wp2_with fail
        refine ⟨⟨i + 1, x, by omega, by go_num, rfl, by first | rfl | trivial, Lib.hid (by rw [hst.out, decide_eq_true hz, Bool.true_and])⟩, by simp [intOf]; omega⟩
      · have h3 : x ≤ l := by omega
        go_wp2_with fail
        go_ret
        refine ⟨?_, rfl⟩
        rw [hst.out, decide_eq_false (by omega : ¬ l < x), Bool.false_and]; rfl
    · obtain rfl : i = a.length := by omega
      go_wp2_with fail
      go_ret
      refine ⟨?_, rfl⟩
      rw [HN.out, List.drop_length]; rfl

end Go.Proofs.YthifbaacmohmnaaGreat

/- package formula: parts as they lie; partOf. -/
namespace Go.Proofs.YthifbaacmohmnaaGreat
open Go.RowKit
set_option linter.unusedVariables false
set_option linter.unusedSimpArgs false

/-- The bits of a part's mark. -/
def MarkOk (m : Nat) (l : List Int) : Prop := m < 18446744073709551616 ∧ ∀ i, i < 64 → m.testBit i = l.any (fun n => n.toNat % 64 == i)
theorem mark_nil : MarkOk 0 [] := ⟨by omega, fun i _ => by simp⟩
theorem mark_step {m : Nat} {l : List Int} {n : Int} (h : MarkOk m l) : MarkOk (m ||| 2 ^ (n.toNat % 64)) (l ++ [n]) := by
  have hlt : n.toNat % 64 < 64 := Nat.mod_lt _ (by omega)
  refine ⟨Nat.or_lt_two_pow (n := 64) h.1 (Nat.pow_lt_pow_right (by omega) hlt), fun i hi => ?_⟩
  rw [Nat.testBit_or, h.2 i hi, Nat.testBit_two_pow, List.any_append]
  by_cases e : n.toNat % 64 = i <;> simp [e]
theorem mark_or {m m' : Nat} {l l' k : List Int} (h : MarkOk m l) (h' : MarkOk m' l') (hk : ∀ x, x ∈ k ↔ x ∈ l ∨ x ∈ l') : MarkOk (m ||| m') k := by
  refine ⟨Nat.or_lt_two_pow (n := 64) h.1 h'.1, fun i hi => ?_⟩
  rw [Nat.testBit_or, h.2 i hi, h'.2 i hi, Bool.eq_iff_iff]
  simp only [Bool.or_eq_true, List.any_eq_true, beq_iff_eq]
  constructor
  · rintro (⟨x, hx, e⟩ | ⟨x, hx, e⟩)
    · exact ⟨x, (hk x).2 (.inl hx), e⟩
    · exact ⟨x, (hk x).2 (.inr hx), e⟩
  · rintro ⟨x, hx, e⟩
    rcases (hk x).1 hx with h | h
    · exact .inl ⟨x, h, e⟩
    · exact .inr ⟨x, h, e⟩

theorem and63 (n : Nat) : bits .and .i64 (n : Int) 63 = ((n % 64 : Nat) : Int) := by
  have h127 : (BitVec.ofInt 64 63).toNat = 2 ^ 6 - 1 := by decide
  have key : (BitVec.ofInt 64 (n : Int) &&& BitVec.ofInt 64 63).toNat = ((n : Int) % ((2 ^ 64 : Nat) : Int)).toNat % 2 ^ 6 := by
    rw [BitVec.toNat_and, BitVec.toNat_ofInt, h127, Nat.and_two_pow_sub_one_eq_mod]
  show IntKind.i64.wrap ((BitVec.ofInt 64 (n : Int) &&& BitVec.ofInt 64 63).toNat : Nat) = _
  rw [key, IntKind.wrap_i64]
  omega

set_option maxRecDepth 100000 in
set_option maxHeartbeats 2000000 in
theorem fPartOf (a : List Int) (A : Option Addr) (n c : Nat) (w : World) (h : IntsAt w (.slice A n c) a) (h0 : ∀ x ∈ a, 0 ≤ x) :
    Calls Tryz.prog 145 #[.slice A n c] w fun e w' => ∃ m : Nat, e = .returned (.agg #[.slice A a.length c, .int .u64 m]) ∧ MarkOk m a ∧ Below w.heap.size w w' := by
  have HI := Lib.hid h
  have hm := h.max
  obtain rfl := h.len
  have H0 := Lib.hid h0
  clear h h0
  go_enter Tryz.func145, Tryz.ntmps145
  have hBw : Below w.heap.size w (w.alloc (.cells #[.slice none 0 0, .int .u64 0] 171)) := (Below.refl _ _).alloc (Nat.le_refl _) _
  have hAt : At (w.alloc (.cells #[.slice none 0 0, .int .u64 0] 171)) w.heap.size 171 #[.slice none 0 0, .int .u64 0] := At.new _ _ _
  go_wp2_with fail
  generalize w.alloc (.cells #[.slice none 0 0, .int .u64 0] 171) = W at hBw hAt ⊢
  have HB := Lib.hid hBw
  have HA := Lib.hid hAt
  have HJ := Lib.hid (HI.out.next hBw)
  clear hBw hAt
  go_loopw [3, 8] (fun u v wr => ∃ (i m : Nat), i ≤ a.length ∧ v = .int .i64 i ∧ u = .int .u64 m ∧ W = wr ∧ Hid (MarkOk m (a.take i))) (fun _ v _ => a.length - (intOf v).toNat)
  case atStart => exact ⟨0, 0, Nat.zero_le _, rfl, rfl, rfl, Lib.hid mark_nil⟩
  case round =>
    obtain ⟨i, m, hi, rfl, rfl, rfl, HN⟩ := hrel
    by_cases hlt : i < a.length
    · have h1 : (0 : Int) ≤ (i : Int) := by omega
      have h2 : (i : Int) < (a.length : Int) := by omega
      obtain ⟨ba, oa, rfl, hb, q1⟩ := HJ.out.at i hlt
      have hst : Hid (MarkOk (m ||| 2 ^ ((inAt a i).toNat % 64)) (a.take (i + 1))) := Lib.hid (by rw [take_step a i hlt, ← inAt_lt hlt]; exact mark_step HN.out)
      have hx0 : 0 ≤ inAt a i := H0.out _ (by rw [inAt_lt hlt]; exact List.getElem_mem hlt)
      obtain ⟨x, hx⟩ : ∃ x, inAt a i = x := ⟨_, rfl⟩
      rw [hx] at q1 hst hx0
      clear hx
      obtain ⟨k, rfl⟩ := Int.eq_ofNat_of_zero_le hx0
      rw [Int.toNat_natCast] at hst
      have hk : k % 64 < 64 := Nat.mod_lt _ (by omega)
      have e1 : bits .and .i64 (k : Int) 63 = ((k % 64 : Nat) : Int) := and63 k
      have hp : (2 : Int) ^ (k % 64) = ((2 ^ (k % 64) : Nat) : Int) := by rw [Int.natCast_pow]; rfl
      have e2 : IntKind.u64.wrap ((2 : Int) ^ (k % 64)) = (2 : Int) ^ (k % 64) := by
        have h3 := Nat.pow_lt_pow_right (a := 2) (by omega) hk
        rw [hp]
        obtain ⟨z, hz⟩ : ∃ z, 2 ^ (k % 64) = z := ⟨_, rfl⟩
        rw [hz] at h3 ⊢
        simp [IntKind.wrap, IntKind.bits, IntKind.signed]; omega
      have e3 : bits .or .u64 (m : Int) ((2 : Int) ^ (k % 64)) = ((m ||| 2 ^ (k % 64) : Nat) : Int) := by rw [hp]; exact bits_or _ _ HN.out.1 (Nat.pow_lt_pow_right (by omega) hk)
      clear hp
      go_wp2_with fail
      refine ⟨⟨i + 1, m ||| 2 ^ (k % 64), by omega, by go_num, by rfl, by first | rfl | trivial, hst⟩, by simp [intOf]; omega⟩
    · obtain rfl : i = a.length := by omega
      have a0 := HA.out.cell 0
      have a1 := HA.out.cell 1
      have f0 := HA.out.free 0
      have f1 := HA.out.free 1
      go_wp2_with fail
      exact bodyPost_ret (results_cell_row Tryz.results145 _ _ w.heap.size 171 #[.slice A a.length c, .int .u64 m] (0, 0) _ rfl ((HA.out.set 0 _).set 1 _) Tryz.underlying171 rfl (by kernel_rfl)) rfl
        ⟨m, rfl, by have := HN.out; rwa [List.take_length] at this, (HB.out.setCell (p := ⟨w.heap.size, 0, none⟩) (Nat.le_refl _) _).setCell (p := ⟨w.heap.size, 1, none⟩) (Nat.le_refl _) _⟩

end Go.Proofs.YthifbaacmohmnaaGreat
