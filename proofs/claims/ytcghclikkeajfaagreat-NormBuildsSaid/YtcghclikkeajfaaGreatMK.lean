/- Joined: Node, NodeEq. -/
import Derived.Test.YtcghclikkeajfaaGreatMb
import Derived.Test.YtcghclikkeajfaaGreatMD
/- Nodes: as data, as cells, and what they match as tables. -/
namespace Go.Proofs.YtcghclikkeajfaaGreat
open Go.RowKit
set_option linter.unusedSimpArgs false
set_option linter.unusedVariables false

structure Nd where
  kind : Int
  set : St
  a : Int
  b : Int
  neg : Bool
def Nd.cs (x : Nd) : List Value := [.int .i64 x.kind, .int .u64 x.set.w0, .int .u64 x.set.w1, .int .u64 x.set.w2, .int .u64 x.set.w3, .int .i64 x.a, .int .i64 x.b, .bool x.neg]
theorem Nd.cs_length (x : Nd) : x.cs.length = 8 := rfl
theorem Nd.one (x : Nd) : x.cs.toArray.all (·.oneCell') = true := by simp [Nd.cs, Value.oneCell']
def Nd.zero : Nd := ⟨0, ⟨0, 0, 0, 0⟩, 0, 0, false⟩
def ndAt (l : List Nd) (j : Nat) : Nd := (l[j]?).getD Nd.zero
theorem ndAt_lt {l : List Nd} {j : Nat} (h : j < l.length) : ndAt l j = l[j] := by unfold ndAt; rw [List.getElem?_eq_getElem h]; rfl
/-- Nodes in a row. -/
def NdsAt (w : World) (v : Value) (l : List Nd) : Prop :=
  ∃ A cap, v = .slice A l.length cap ∧ l.length ≤ 9223372036854775807 ∧ (0 < l.length → ∃ b off, A = some ⟨b, off, none⟩ ∧ b < w.heap.size ∧ ∀ (j : Nat) (h : j < l.length), w.rangeAt b (off + j * 8) (ndAt l j).cs)
theorem NdsAt.next {w w' : World} {v : Value} {l : List Nd} (h : NdsAt w v l) (hb : Below w.heap.size w w') : NdsAt w' v l := by
  obtain ⟨A, cap, h1, h2, h3⟩ := h
  refine ⟨A, cap, h1, h2, fun h0 => ?_⟩
  obtain ⟨b, off, e, hlt, hr⟩ := h3 h0
  exact ⟨b, off, e, Nat.lt_of_lt_of_le hlt hb.size, fun j hj => fun i v hv => ((bcell hb).1 b _ hlt).trans (hr j hj i v hv)⟩
theorem NdsAt.len {w : World} {A : Option Addr} {n c : Nat} {l : List Nd} (h : NdsAt w (.slice A n c) l) : n = l.length := by
  obtain ⟨A', cap, h1, _⟩ := h
  injection h1
/-- A node in a new variable. -/
def boxN (w : World) (x : Nd) : World := (w.alloc (.cells #[.int .i64 0, .int .u64 0, .int .u64 0, .int .u64 0, .int .u64 0, .int .i64 0, .int .i64 0, .bool false] 65)).setRow w.heap.size x.cs.toArray
theorem boxN_at (w : World) (x : Nd) : At (boxN w x) w.heap.size 65 x.cs.toArray := At.row (At.new w 65 Nd.zero.cs.toArray) _
theorem boxN_next (w : World) (x : Nd) : Below w.heap.size w (boxN w x) := below_row ((Below.refl _ _).alloc (Nat.le_refl _) _) (Nat.le_refl _) _
theorem Nd.cells {w : World} {g : Nat} {t : TypeId} {x : Nd} (h : At w g t x.cs.toArray) : w.cell? ⟨g, 0, none⟩ = some (.int .i64 x.kind) ∧ w.cell? ⟨g, 1, none⟩ = some (.int .u64 x.set.w0) ∧ w.cell? ⟨g, 2, none⟩ = some (.int .u64 x.set.w1) ∧ w.cell? ⟨g, 3, none⟩ = some (.int .u64 x.set.w2) ∧ w.cell? ⟨g, 4, none⟩ = some (.int .u64 x.set.w3) ∧ w.cell? ⟨g, 5, none⟩ = some (.int .i64 x.a) ∧ w.cell? ⟨g, 6, none⟩ = some (.int .i64 x.b) ∧ w.cell? ⟨g, 7, none⟩ = some (.bool x.neg) :=
  ⟨At.cell h 0, At.cell h 1, At.cell h 2, At.cell h 3, At.cell h 4, At.cell h 5, At.cell h 6, At.cell h 7⟩

/- What nodes match. -/
def bitF (bits : List Nat) (a : Nat) (neg : Bool) (i j : Nat) : Bool := decide (i = j) && (decide (((bits[i]?).getD 0) >>> a % 2 = 1) != neg)
def fAt (fs : List (Nat → Nat → Bool)) (k : Int) : Nat → Nat → Bool := (fs[k.toNat]?).getD noF
def nodeF (l bits : List Nat) (fs : List (Nat → Nat → Bool)) (x : Nd) : Nat → Nat → Bool :=
  if x.kind = 1 then eqF
  else if x.kind = 2 then byteF x.set l
  else if x.kind = 3 then thenF (fAt fs x.a) (fAt fs x.b) (l.length + 1)
  else if x.kind = 4 then fun i j => fAt fs x.a i j || fAt fs x.b i j
  else if x.kind = 5 then fun i j => fAt fs x.a i j && fAt fs x.b i j
  else if x.kind = 6 then otherF (fAt fs x.a)
  else if x.kind = 7 then anyTo (fAt fs x.a) (l.length + 1) (l.length + 1)
  else if x.kind = 8 then bitF bits x.a.toNat x.neg
  else noF
def nodesF (l bits : List Nat) (ns : List Nd) : Nat → List (Nat → Nat → Bool)
  | 0 => []
  | j + 1 => nodesF l bits ns j ++ [nodeF l bits (nodesF l bits ns j) (ndAt ns j)]
theorem nodesF_length (l bits : List Nat) (ns : List Nd) : ∀ j, (nodesF l bits ns j).length = j
  | 0 => rfl
  | j + 1 => by
    show (nodesF l bits ns j ++ [_]).length = j + 1
    rw [List.length_append, nodesF_length l bits ns j]; rfl
/-- Each node names only those ahead of it; a look's number is small. -/
def NdOk (x : Nd) (j : Nat) : Prop :=
  x.set.Ok ∧ (x.kind = 3 ∨ x.kind = 4 ∨ x.kind = 5 → 0 ≤ x.a ∧ x.a < j ∧ 0 ≤ x.b ∧ x.b < j) ∧ (x.kind = 6 ∨ x.kind = 7 → 0 ≤ x.a ∧ x.a < j) ∧ (x.kind = 8 → 0 ≤ x.a ∧ x.a < 4)

end Go.Proofs.YtcghclikkeajfaaGreat

/- '==' on two nodes. -/
namespace Go.Proofs.YtcghclikkeajfaaGreat
open Go.RowKit
set_option linter.unusedSimpArgs false

def Nd.eqb (x y : Nd) : Bool := x.kind == y.kind && (x.set.eqb y.set && (x.a == y.a && (x.b == y.b && x.neg == y.neg)))
theorem Nd.eqb_iff (x y : Nd) : x.eqb y = true ↔ x = y := by
  cases x; cases y
  simp [Nd.eqb, St.eqb_iff]
theorem Nd.eqb_self (x : Nd) : x.eqb x = true := (Nd.eqb_iff x x).2 rfl
theorem fields_nd : (Tryz.prog.fieldsOf 65).toList.map (fun f => (f.name, f.type, f.offset)) = [("Kind", 3, 0), ("Set", 24, 1), ("A", 3, 5), ("B", 3, 6), ("Neg", 4, 7)] := by kernel_rfl
theorem fields_nd' : ∃ f0 f1 f2 f3 f4, (Tryz.prog.fieldsOf 65).toList = [f0, f1, f2, f3, f4] ∧ (f0.name = "Kind" ∧ f0.type = 3 ∧ f0.offset = 0) ∧ (f1.name = "Set" ∧ f1.type = 24 ∧ f1.offset = 1) ∧ (f2.name = "A" ∧ f2.type = 3 ∧ f2.offset = 5) ∧ (f3.name = "B" ∧ f3.type = 3 ∧ f3.offset = 6) ∧ (f4.name = "Neg" ∧ f4.type = 4 ∧ f4.offset = 7) := by
  have h := fields_nd
  generalize (Tryz.prog.fieldsOf 65).toList = l at h ⊢
  have hl : l.length = 5 := by have := congrArg List.length h; simpa using this
  match l, hl with
  | [f0, f1, f2, f3, f4], _ =>
    simp only [List.map_cons, List.map_nil, List.cons.injEq, Prod.mk.injEq, and_true] at h
    exact ⟨f0, f1, f2, f3, f4, rfl, h⟩
theorem struct_nd : Tryz.prog.underlying 65 = some (.struct (Tryz.prog.fieldsOf 65)) := by kernel_rfl
theorem stood_nd : Tryz.prog.stoodInHeld 65 = false := by kernel_rfl
theorem nd_part0 (w : World) (x : Nd) : (part 3 x.cs.toArray 0).run Tryz.prog w = .ok (.int .i64 x.kind) w := by
  simp [part, isAgg, run_underlying Tryz.underlying3, Nd.cs]
theorem nd_part1 (w : World) (x : Nd) : (part 24 x.cs.toArray 1).run Tryz.prog w = .ok (.agg #[.int .u64 x.set.w0, .int .u64 x.set.w1, .int .u64 x.set.w2, .int .u64 x.set.w3]) w := by
  obtain ⟨iR, hR, hRs⟩ : ∃ i, Tryz.prog.info? 24 = some i ∧ i.size = 4 := by
    have h : (Tryz.prog.info? 24).map (·.size) = some 4 := by kernel_rfl
    cases hq : Tryz.prog.info? 24 with
    | none => simp [hq] at h
    | some i => exact ⟨i, rfl, by simpa [hq] using h⟩
  simp only [part, isAgg, Sem.run_bind, run_underlying Tryz.underlying24, Result.andThen_ok, sizeOf, typeInfo, Sem.run_pure, if_true]
  simp [hR, hRs, Nd.cs]
theorem nd_part2 (w : World) (x : Nd) : (part 3 x.cs.toArray 5).run Tryz.prog w = .ok (.int .i64 x.a) w := by
  simp [part, isAgg, run_underlying Tryz.underlying3, Nd.cs]
theorem nd_part3 (w : World) (x : Nd) : (part 3 x.cs.toArray 6).run Tryz.prog w = .ok (.int .i64 x.b) w := by
  simp [part, isAgg, run_underlying Tryz.underlying3, Nd.cs]
theorem nd_part4 (w : World) (x : Nd) : (part 4 x.cs.toArray 7).run Tryz.prog w = .ok (.bool x.neg) w := by
  simp [part, isAgg, run_underlying Tryz.underlying4, Nd.cs]
theorem ndEqD (d : Nat) (w : World) (x y : Nd) : (Op.equalIn (d + 1 + 1 + 1) 65 (.agg x.cs.toArray) (.agg y.cs.toArray)).run Tryz.prog w = .ok (x.eqb y) w := by
  rw [run_equalIn_struct w (d + 1 + 1) _ _ _ struct_nd stood_nd]
  obtain ⟨f0, f1, f2, f3, f4, hfs, ⟨n0, t0, o0⟩, ⟨n1, t1, o1⟩, ⟨n2, t2, o2⟩, ⟨n3, t3, o3⟩, ⟨n4, t4, o4⟩⟩ := fields_nd'
  rw [hfs]
  have hi : ∀ a b : Int, (Op.equalIn (d + 1 + 1) 3 (.int .i64 a) (.int .i64 b)).run Tryz.prog w = .ok (a == b) w := fun a b => run_equalIn_int w (d + 1) 3 .i64 .i64 a b Tryz.underlying3
  have hb : ∀ a b : Bool, (Op.equalIn (d + 1 + 1) 4 (.bool a) (.bool b)).run Tryz.prog w = .ok (a == b) w := fun a b => run_equalIn_bool w (d + 1) 4 a b Tryz.underlying4
  have hq := run_set_eq (d := d) Tryz.underlying24 (by kernel_rfl) Tryz.underlying22 (by kernel_rfl) w x.set y.set
  have hn0 : f0.name ≠ "_" := by rw [n0]; decide
  have hn1 : f1.name ≠ "_" := by rw [n1]; decide
  have hn2 : f2.name ≠ "_" := by rw [n2]; decide
  have hn3 : f3.name ≠ "_" := by rw [n3]; decide
  have hn4 : f4.name ≠ "_" := by rw [n4]; decide
  unfold Op.eqFields
  rw [if_pos hn0, t0, o0]
  simp only [Sem.run_bind, nd_part0, hi x.kind y.kind, Result.andThen_ok]
  cases q0 : (x.kind == y.kind) with
  | false => simp [Nd.eqb, q0]
  | true =>
    simp only [Bool.not_true, Bool.false_eq_true, if_false]
    unfold Op.eqFields
    rw [if_pos hn1, t1, o1]
    simp only [Sem.run_bind, nd_part1, hq, Result.andThen_ok]
    cases q1 : (x.set.eqb y.set) with
    | false => simp [Nd.eqb, q0, q1]
    | true =>
      simp only [Bool.not_true, Bool.false_eq_true, if_false]
      unfold Op.eqFields
      rw [if_pos hn2, t2, o2]
      simp only [Sem.run_bind, nd_part2, hi x.a y.a, Result.andThen_ok]
      cases q2 : (x.a == y.a) with
      | false => simp [Nd.eqb, q0, q1, q2]
      | true =>
        simp only [Bool.not_true, Bool.false_eq_true, if_false]
        unfold Op.eqFields
        rw [if_pos hn3, t3, o3]
        simp only [Sem.run_bind, nd_part3, hi x.b y.b, Result.andThen_ok]
        cases q3 : (x.b == y.b) with
        | false => simp [Nd.eqb, q0, q1, q2, q3]
        | true =>
          simp only [Bool.not_true, Bool.false_eq_true, if_false]
          unfold Op.eqFields
          rw [if_pos hn4, t4, o4]
          simp only [Sem.run_bind, nd_part4, hb x.neg y.neg, Result.andThen_ok]
          cases q4 : (x.neg == y.neg) with
          | false => simp [Nd.eqb, q0, q1, q2, q3, q4]
          | true =>
            simp only [Bool.not_true, Bool.false_eq_true, if_false]
            simp [Nd.eqb, Op.eqFields, q0, q1, q2, q3, q4]
theorem ndEq (w : World) (x y : Nd) (v : Bool) (h : x.eqb y = v) : (Op.equalIn 10000 65 (.agg x.cs.toArray) (.agg y.cs.toArray)).run Tryz.prog w = .ok v w := by
  rw [← h]; exact ndEqD 9997 w x y

end Go.Proofs.YtcghclikkeajfaaGreat
