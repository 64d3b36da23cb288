/- Joined: TurnSpans, NodeTurn, SetEq, NodeEq, NodeRight, Open. -/
import Derived.Test.YthifbaacmohmnaaGreatMad
import Derived.Test.YthifbaacmohmnaaGreatMac
import Derived.Test.YthifbaacmohmnaaGreatMab
import Derived.Test.YthifbaacmohmnaaGreatProg
import Derived.Test.YthifbaacmohmnaaGreatMaa
import Derived.StillTailTactics
import Derived.Deep.QuietTactic
import Derived.BigQuiet
import Derived.ProofKit
import Derived.OpenShut
import Derived.Laws.IdiomArrays
/- What a pattern turned round matches: backwards what the pattern does. No program is walked here. -/
namespace Go.Proofs.YthifbaacmohmnaaGreat
open Go.RowKit

abbrev Tbl := Nat → Nat → Bool
/-- Two tables of n places say the same. -/
def Eqv (n : Nat) (f g : Tbl) : Prop := ∀ i j, i < n → j < n → f i j = g i j
theorem Eqv.refl (n : Nat) (f : Tbl) : Eqv n f f := fun _ _ _ _ => rfl
theorem Eqv.symm {n : Nat} {f g : Tbl} (h : Eqv n f g) : Eqv n g f := fun i j hi hj => (h i j hi hj).symm
theorem Eqv.trans {n : Nat} {f g h : Tbl} (a : Eqv n f g) (b : Eqv n g h) : Eqv n f h := fun i j hi hj => (a i j hi hj).trans (b i j hi hj)
theorem then_iff (f g : Tbl) (n i j : Nat) : thenF f g n i j = true ↔ ∃ m, m < n ∧ i ≤ m ∧ m ≤ j ∧ f i m = true ∧ g m j = true := by
  unfold thenF thenPart
  rw [List.any_eq_true]
  constructor
  · rintro ⟨m, hm, h⟩
    rw [Bool.and_eq_true, Bool.and_eq_true, decide_eq_true_iff] at h
    exact ⟨m, List.mem_range.1 hm, h.1.1, h.1.2, h.2.1, h.2.2⟩
  · rintro ⟨m, hm, h1, h2, h3, h4⟩
    exact ⟨m, List.mem_range.2 hm, by rw [h3, h4, decide_eq_true ⟨h1, h2⟩]; rfl⟩
theorem bool_iff {a b : Bool} (h : a = true ↔ b = true) : a = b := by cases a <;> cases b <;> simp_all
theorem eqF_iff (i j : Nat) : eqF i j = true ↔ i = j := by unfold eqF; exact decide_eq_true_iff
/- So many times. -/
/- Looks. -/
/- Bytes and the two ends. -/
end Go.Proofs.YthifbaacmohmnaaGreat

/- What turning nodes round does to their tables: mathematics; no program is named. -/
namespace Go.Proofs.YthifbaacmohmnaaGreat
open Go.RowKit
set_option linter.unusedSimpArgs false
set_option linter.unusedVariables false

theorem nodesF_prefix (l bits : List Nat) (ns : List Nd) (a j : Nat) (ha : a < j) : ∀ m, j ≤ m → (nodesF l bits ns m)[a]? = (nodesF l bits ns j)[a]?
  | 0, h => by omega
  | m + 1, h => by
    by_cases e : j = m + 1
    · rw [e]
    · show (nodesF l bits ns m ++ [_])[a]? = _
      rw [List.getElem?_append_left (by rw [nodesF_length]; omega)]
      exact nodesF_prefix l bits ns a j ha m (by omega)
theorem nodeF_congr (l bits : List Nat) {fs gs : List (Nat → Nat → Bool)} {x : Nd} (ha : (x.kind = 3 ∨ x.kind = 4 ∨ x.kind = 5) ∨ (x.kind = 6 ∨ x.kind = 7) → fAt fs x.a = fAt gs x.a) (hb : x.kind = 3 ∨ x.kind = 4 ∨ x.kind = 5 → fAt fs x.b = fAt gs x.b) : nodeF l bits fs x = nodeF l bits gs x := by
  unfold nodeF
  by_cases h1 : x.kind = 1
  · rw [if_pos h1, if_pos h1]
  rw [if_neg h1, if_neg h1]
  by_cases h2 : x.kind = 2
  · rw [if_pos h2, if_pos h2]
  rw [if_neg h2, if_neg h2]
  by_cases h3 : x.kind = 3
  · rw [if_pos h3, if_pos h3, ha (Or.inl (Or.inl h3)), hb (Or.inl h3)]
  rw [if_neg h3, if_neg h3]
  by_cases h4 : x.kind = 4
  · rw [if_pos h4, if_pos h4, ha (Or.inl (Or.inr (Or.inl h4))), hb (Or.inr (Or.inl h4))]
  rw [if_neg h4, if_neg h4]
  by_cases h5 : x.kind = 5
  · rw [if_pos h5, if_pos h5, ha (Or.inl (Or.inr (Or.inr h5))), hb (Or.inr (Or.inr h5))]
  rw [if_neg h5, if_neg h5]
  by_cases h6 : x.kind = 6
  · rw [if_pos h6, if_pos h6, ha (Or.inr (Or.inl h6))]
  rw [if_neg h6, if_neg h6]
  by_cases h7 : x.kind = 7
  · rw [if_pos h7, if_pos h7, ha (Or.inr (Or.inr h7))]
  rw [if_neg h7, if_neg h7]
/-- The table of a node. -/
def nodeT (l bits : List Nat) (ns : List Nd) (i : Int) : Nat → Nat → Bool := fAt (nodesF l bits ns ns.length) i
theorem fAt_prefix (l bits : List Nat) (ns : List Nd) (a : Int) (j : Nat) (h0 : 0 ≤ a) (h : a < j) (hj : j ≤ ns.length) : fAt (nodesF l bits ns j) a = nodeT l bits ns a := by
  unfold nodeT fAt
  rw [nodesF_prefix l bits ns a.toNat j (by omega) ns.length hj]
theorem nodeT_eq (l bits : List Nat) (ns : List Nd) (hok : ∀ j, j < ns.length → NdOk (ndAt ns j) j) (i : Nat) (hi : i < ns.length) : nodeT l bits ns i = nodeF l bits (nodesF l bits ns ns.length) (ndAt ns i) := by
  have h1 : nodeT l bits ns i = nodeF l bits (nodesF l bits ns i) (ndAt ns i) := by
    rw [← fAt_prefix l bits ns i (i + 1) (by omega) (by omega) (by omega)]
    unfold fAt
    rw [Int.toNat_natCast]
    show ((nodesF l bits ns i ++ [_])[i]?).getD noF = _
    rw [List.getElem?_append_right (by rw [nodesF_length]; omega), nodesF_length, Nat.sub_self]
    rfl
  rw [h1]
  have ho := hok i hi
  refine nodeF_congr l bits (fun h => ?_) (fun h => ?_)
  · have ha : 0 ≤ (ndAt ns i).a ∧ (ndAt ns i).a < i := by
      rcases h with h | h
      · exact ⟨(ho.2.1 h).1, (ho.2.1 h).2.1⟩
      · exact ho.2.2.1 h
    exact fAt_prefix l bits ns _ i ha.1 ha.2 (by omega)
  · have hb := (ho.2.1 h).2.2
    exact fAt_prefix l bits ns _ i hb.1 hb.2 (by omega)
end Go.Proofs.YthifbaacmohmnaaGreat

/- '==' on two sets. -/
namespace Go.Proofs.YthifbaacmohmnaaGreat
open Go.RowKit

end Go.Proofs.YthifbaacmohmnaaGreat

/- '==' on two nodes. -/
namespace Go.Proofs.YthifbaacmohmnaaGreat
open Go.RowKit
set_option linter.unusedSimpArgs false

def Nd.eqb (x y : Nd) : Bool := x.kind == y.kind && (x.set.eqb y.set && (x.a == y.a && (x.b == y.b && x.neg == y.neg)))
theorem Nd.eqb_iff (x y : Nd) : x.eqb y = true ↔ x = y := by
  cases x; cases y
  simp [Nd.eqb, St.eqb_iff]
theorem Nd.eqb_self (x : Nd) : x.eqb x = true := (Nd.eqb_iff x x).2 rfl
theorem fields_nd : (Tryz.prog.fieldsOf 61).toList.map (fun f => (f.name, f.type, f.offset)) = [("Kind", 3, 0), ("Set", 46, 1), ("A", 3, 5), ("B", 3, 6), ("Neg", 4, 7)] := by kernel_rfl
theorem fields_nd' : ∃ f0 f1 f2 f3 f4, (Tryz.prog.fieldsOf 61).toList = [f0, f1, f2, f3, f4] ∧ (f0.name = "Kind" ∧ f0.type = 3 ∧ f0.offset = 0) ∧ (f1.name = "Set" ∧ f1.type = 46 ∧ f1.offset = 1) ∧ (f2.name = "A" ∧ f2.type = 3 ∧ f2.offset = 5) ∧ (f3.name = "B" ∧ f3.type = 3 ∧ f3.offset = 6) ∧ (f4.name = "Neg" ∧ f4.type = 4 ∧ f4.offset = 7) := by
  have h := fields_nd
  generalize (Tryz.prog.fieldsOf 61).toList = l at h ⊢
  have hl : l.length = 5 := by have := congrArg List.length h; simpa using this
  match l, hl with
  | [f0, f1, f2, f3, f4], _ =>
    simp only [List.map_cons, List.map_nil, List.cons.injEq, Prod.mk.injEq, and_true] at h
    exact ⟨f0, f1, f2, f3, f4, rfl, h⟩
theorem struct_nd : Tryz.prog.underlying 61 = some (.struct (Tryz.prog.fieldsOf 61)) := by kernel_rfl
theorem stood_nd : Tryz.prog.stoodInHeld 61 = false := by kernel_rfl
theorem nd_part0 (w : World) (x : Nd) : (part 3 x.cs.toArray 0).run Tryz.prog w = .ok (.int .i64 x.kind) w := by
  simp [part, isAgg, run_underlying Tryz.underlying3, Nd.cs]
theorem nd_part1 (w : World) (x : Nd) : (part 46 x.cs.toArray 1).run Tryz.prog w = .ok (.agg #[.int .u64 x.set.w0, .int .u64 x.set.w1, .int .u64 x.set.w2, .int .u64 x.set.w3]) w := by
  obtain ⟨iR, hR, hRs⟩ : ∃ i, Tryz.prog.info? 46 = some i ∧ i.size = 4 := by
    have h : (Tryz.prog.info? 46).map (·.size) = some 4 := by kernel_rfl
    cases hq : Tryz.prog.info? 46 with
    | none => simp [hq] at h
    | some i => exact ⟨i, rfl, by simpa [hq] using h⟩
  simp only [part, isAgg, Sem.run_bind, run_underlying Tryz.underlying46, Result.andThen_ok, sizeOf, typeInfo, Sem.run_pure, if_true]
  simp [hR, hRs, Nd.cs]
theorem nd_part2 (w : World) (x : Nd) : (part 3 x.cs.toArray 5).run Tryz.prog w = .ok (.int .i64 x.a) w := by
  simp [part, isAgg, run_underlying Tryz.underlying3, Nd.cs]
theorem nd_part3 (w : World) (x : Nd) : (part 3 x.cs.toArray 6).run Tryz.prog w = .ok (.int .i64 x.b) w := by
  simp [part, isAgg, run_underlying Tryz.underlying3, Nd.cs]
theorem nd_part4 (w : World) (x : Nd) : (part 4 x.cs.toArray 7).run Tryz.prog w = .ok (.bool x.neg) w := by
  simp [part, isAgg, run_underlying Tryz.underlying4, Nd.cs]
theorem ndEqD (d : Nat) (w : World) (x y : Nd) : (Op.equalIn (d + 1 + 1 + 1) 61 (.agg x.cs.toArray) (.agg y.cs.toArray)).run Tryz.prog w = .ok (x.eqb y) w := by
  rw [run_equalIn_struct w (d + 1 + 1) _ _ _ struct_nd stood_nd]
  obtain ⟨f0, f1, f2, f3, f4, hfs, ⟨n0, t0, o0⟩, ⟨n1, t1, o1⟩, ⟨n2, t2, o2⟩, ⟨n3, t3, o3⟩, ⟨n4, t4, o4⟩⟩ := fields_nd'
  rw [hfs]
  have hi : ∀ a b : Int, (Op.equalIn (d + 1 + 1) 3 (.int .i64 a) (.int .i64 b)).run Tryz.prog w = .ok (a == b) w := fun a b => run_equalIn_int w (d + 1) 3 .i64 .i64 a b Tryz.underlying3
  have hb : ∀ a b : Bool, (Op.equalIn (d + 1 + 1) 4 (.bool a) (.bool b)).run Tryz.prog w = .ok (a == b) w := fun a b => run_equalIn_bool w (d + 1) 4 a b Tryz.underlying4
  have hq := run_set_eq (d := d) Tryz.underlying46 (by kernel_rfl) Tryz.underlying44 (by kernel_rfl) w x.set y.set
  have hn0 : f0.name ≠ "_" := by rw [n0]; decide
  have hn1 : f1.name ≠ "_" := by rw [n1]; decide
  have hn2 : f2.name ≠ "_" := by rw [n2]; decide
  have hn3 : f3.name ≠ "_" := by rw [n3]; decide
  have hn4 : f4.name ≠ "_" := by rw [n4]; decide
  unfold Op.eqFields
  rw [if_pos hn0, t0, o0]
  simp only [Sem.run_bind, nd_part0, hi x.kind y.kind, Result.andThen_ok]
  cases q0 : (x.kind == y.kind) with
  | false => simp [Nd.eqb, q0]
  | true =>
    simp only [Bool.not_true, Bool.false_eq_true, if_false]
    unfold Op.eqFields
    rw [if_pos hn1, t1, o1]
    simp only [Sem.run_bind, nd_part1, hq, Result.andThen_ok]
    cases q1 : (x.set.eqb y.set) with
    | false => simp [Nd.eqb, q0, q1]
    | true =>
      simp only [Bool.not_true, Bool.false_eq_true, if_false]
      unfold Op.eqFields
      rw [if_pos hn2, t2, o2]
      simp only [Sem.run_bind, nd_part2, hi x.a y.a, Result.andThen_ok]
      cases q2 : (x.a == y.a) with
      | false => simp [Nd.eqb, q0, q1, q2]
      | true =>
        simp only [Bool.not_true, Bool.false_eq_true, if_false]
        unfold Op.eqFields
        rw [if_pos hn3, t3, o3]
        simp only [Sem.run_bind, nd_part3, hi x.b y.b, Result.andThen_ok]
        cases q3 : (x.b == y.b) with
        | false => simp [Nd.eqb, q0, q1, q2, q3]
        | true =>
          simp only [Bool.not_true, Bool.false_eq_true, if_false]
          unfold Op.eqFields
          rw [if_pos hn4, t4, o4]
          simp only [Sem.run_bind, nd_part4, hb x.neg y.neg, Result.andThen_ok]
          cases q4 : (x.neg == y.neg) with
          | false => simp [Nd.eqb, q0, q1, q2, q3, q4]
          | true =>
            simp only [Bool.not_true, Bool.false_eq_true, if_false]
            simp [Nd.eqb, Op.eqFields, q0, q1, q2, q3, q4]
theorem ndEq (w : World) (x y : Nd) (v : Bool) (h : x.eqb y = v) : (Op.equalIn 10000 61 (.agg x.cs.toArray) (.agg y.cs.toArray)).run Tryz.prog w = .ok v w := by
  rw [← h]; exact ndEqD 9997 w x y

end Go.Proofs.YthifbaacmohmnaaGreat

/- bolterref09.Right: may a node be put behind so many? -/
namespace Go.Proofs.YthifbaacmohmnaaGreat
open Go.RowKit
set_option linter.unusedSimpArgs false
set_option linter.unusedVariables false

def aIn (a : Int) (n : Int) : Bool := decide (0 ≤ a) && decide (a < n)
def noSt : St := ⟨0, 0, 0, 0⟩
def Nd.bare (x : Nd) : Nd := ⟨x.kind, noSt, 0, 0, false⟩
def Nd.right (x : Nd) (n : Nat) : Bool :=
  if x.kind = 0 ∨ x.kind = 1 then x.eqb x.bare
  else if x.kind = 2 then x.eqb ⟨x.kind, x.set, 0, 0, false⟩
  else if x.kind = 3 ∨ x.kind = 4 ∨ x.kind = 5 then x.eqb ⟨x.kind, noSt, x.a, x.b, false⟩ && aIn x.a n && aIn x.b n
  else if x.kind = 6 ∨ x.kind = 7 then x.eqb ⟨x.kind, noSt, x.a, 0, false⟩ && aIn x.a n
  else if x.kind = 8 then x.eqb ⟨x.kind, noSt, x.a, 0, x.neg⟩ && aIn x.a 4
  else false
theorem below_drewN' {B : Nat} {w w1 : World} (h : Below B w w1) (q : Nat) : Below B w (w1.drewN q) := ⟨h.os, h.tape, h.output, h.size, h.block⟩

end Go.Proofs.YthifbaacmohmnaaGreat

/- A set that is handed in by value, as data and as four words. -/
namespace Go.Proofs.YthifbaacmohmnaaGreat
open Go.ChangeShapes Go.WideShapes Go.ChangeAt Go.RowKit

theorem own : ownKnob Tryz.prog.godebug = none := by kernel_rfl
theorem laidOut : laidOutB Tryz.prog = true := by kernel_rfl
theorem u64_of_wf {n : Int} (h : (Lit.int .u64 n).wf = true) : ∃ k : Nat, n = (k : Int) ∧ U64 k := by
  obtain ⟨h1, h2⟩ := bounds_u64 h
  refine ⟨n.toNat, by omega, ?_⟩
  unfold U64
  omega
section
variable {H : Type} {enc : TypeId × Value → H} {P : Program} {w : World} {base : Nat} {spare : Nat → Bool} {held : Bool}
theorem open_bytes {r : Reach} {b0 : Nat} {T E : TypeId} {v : Value} {d : DataW H} {p : List MemPlace} (hu : P.underlying T = some (.slice E)) (hE : P.underlying E = some (.int .u8)) (hcE : P.cellsOf E = 1)
    (hv : Value.okWide P w r b0 T v) (h : DataW.Trod enc P w base spare held T v d p) : ∃ (A : Option Addr) (n c : Nat) (l : List Nat), IsBytes w A n l ∧ v = .slice A n c := by
  obtain ⟨A, n, c, rfl⟩ := okWide_slice hu hv
  obtain ⟨fuel, hf⟩ := h
  rcases open_ints hu hE hcE hf with ⟨hcs, _⟩ | ⟨x, len, cap, zs, hcs, _, hl, hm, hz, _, hcell, hwz⟩
  · simp [Value.cells] at hcs
    obtain ⟨rfl, rfl, rfl⟩ := hcs
    exact ⟨none, 0, 0, [], ⟨rfl, by omega, fun k hk => by simp at hk, fun h0 => by omega⟩, rfl⟩
  · simp [Value.cells] at hcs
    obtain ⟨rfl, rfl, rfl⟩ := hcs
    have hzn : n ≤ zs.length := by rw [hz]; split <;> omega
    have hb : ∀ k, k < zs.length → 0 ≤ zs.getD k 0 ∧ zs.getD k 0 ≤ 255 := by
      intro k hk
      refine bounds_u8 (hwz _ ?_)
      rw [List.getD_eq_getElem?_getD, List.getElem?_eq_getElem hk]
      exact List.getElem_mem _
    refine ⟨some x, n, c, (zs.take n).map Int.toNat, ⟨?_, ?_, ?_, ?_⟩, rfl⟩
    · simp; omega
    · unfold maxLen at hm; omega
    · intro k hk
      simp at hk
      have h1 := hb k (by omega)
      rw [List.getD_eq_getElem?_getD, List.getElem?_eq_getElem (by omega)] at h1
      simp at h1 ⊢
      omega
    · intro h0
      have hc0 := hcell 0 (by omega)
      obtain ⟨b, off, spot⟩ := x
      have hspot : spot = none := by simpa [Addr.add] using World.cell?_spot hc0
      subst hspot
      refine ⟨b, off, rfl, ?_, ?_⟩
      · exact block_lt_of_cell (a := ⟨b, off, none⟩) (by simpa [Addr.add] using hc0)
      · intro k hk
        simp at hk
        have h1 := hb k (by omega)
        have h2 := hcell k (by omega)
        rw [List.getD_eq_getElem?_getD, List.getElem?_eq_getElem (by omega)] at h1 h2
        have hadd : (⟨b, off, none⟩ : Addr).add k = ⟨b, off + k, none⟩ := by unfold Addr.add; split <;> simp_all
        rw [hadd] at h2
        simp at h1 h2 ⊢
        rw [h2]
        congr 2
        omega
theorem trod_below {t : TypeId} {v : Value} {d : DataW H} {p : List MemPlace} (h : DataW.Trod enc P w base spare held t v d p) : ∀ x ∈ p, x.block < w.heap.size := by
  obtain ⟨m, hm⟩ := h; exact DataW.trod_lt m _ _ _ hm
end

end Go.Proofs.YthifbaacmohmnaaGreat
