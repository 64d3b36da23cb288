/- Nodes: as data, as cells, and what they match as tables. -/
import Derived.Test.YtcghclikkeajfaaMb
namespace Go.Proofs.Ytcghclikkeajfaa
open Go.RowKit
set_option linter.unusedSimpArgs false
set_option linter.unusedVariables false

structure Nd where
  kind : Int
  set : St
  a : Int
  b : Int
  neg : Bool
def Nd.cs (x : Nd) : List Value := [.int .i64 x.kind, .int .u64 x.set.w0, .int .u64 x.set.w1, .int .u64 x.set.w2, .int .u64 x.set.w3, .int .i64 x.a, .int .i64 x.b, .bool x.neg]
theorem Nd.cs_length (x : Nd) : x.cs.length = 8 := rfl
theorem Nd.one (x : Nd) : x.cs.toArray.all (·.oneCell') = true := by simp [Nd.cs, Value.oneCell']
def Nd.zero : Nd := ⟨0, ⟨0, 0, 0, 0⟩, 0, 0, false⟩
def ndAt (l : List Nd) (j : Nat) : Nd := (l[j]?).getD Nd.zero
theorem ndAt_lt {l : List Nd} {j : Nat} (h : j < l.length) : ndAt l j = l[j] := by unfold ndAt; rw [List.getElem?_eq_getElem h]; rfl
/-- Nodes in a row. -/
def NdsAt (w : World) (v : Value) (l : List Nd) : Prop :=
  ∃ A cap, v = .slice A l.length cap ∧ l.length ≤ 9223372036854775807 ∧ (0 < l.length → ∃ b off, A = some ⟨b, off, none⟩ ∧ b < w.heap.size ∧ ∀ (j : Nat) (h : j < l.length), w.rangeAt b (off + j * 8) (ndAt l j).cs)
theorem NdsAt.next {w w' : World} {v : Value} {l : List Nd} (h : NdsAt w v l) (hb : Below w.heap.size w w') : NdsAt w' v l := by
  obtain ⟨A, cap, h1, h2, h3⟩ := h
  refine ⟨A, cap, h1, h2, fun h0 => ?_⟩
  obtain ⟨b, off, e, hlt, hr⟩ := h3 h0
  exact ⟨b, off, e, Nat.lt_of_lt_of_le hlt hb.size, fun j hj => fun i v hv => ((bcell hb).1 b _ hlt).trans (hr j hj i v hv)⟩
theorem NdsAt.len {w : World} {A : Option Addr} {n c : Nat} {l : List Nd} (h : NdsAt w (.slice A n c) l) : n = l.length := by
  obtain ⟨A', cap, h1, _⟩ := h
  injection h1
/-- A node in a new variable. -/
def boxN (w : World) (x : Nd) : World := (w.alloc (.cells #[.int .i64 0, .int .u64 0, .int .u64 0, .int .u64 0, .int .u64 0, .int .i64 0, .int .i64 0, .bool false] 56)).setRow w.heap.size x.cs.toArray
theorem boxN_at (w : World) (x : Nd) : At (boxN w x) w.heap.size 56 x.cs.toArray := At.row (At.new w 56 Nd.zero.cs.toArray) _
theorem boxN_next (w : World) (x : Nd) : Below w.heap.size w (boxN w x) := below_row ((Below.refl _ _).alloc (Nat.le_refl _) _) (Nat.le_refl _) _
theorem Nd.cells {w : World} {g : Nat} {t : TypeId} {x : Nd} (h : At w g t x.cs.toArray) : w.cell? ⟨g, 0, none⟩ = some (.int .i64 x.kind) ∧ w.cell? ⟨g, 1, none⟩ = some (.int .u64 x.set.w0) ∧ w.cell? ⟨g, 2, none⟩ = some (.int .u64 x.set.w1) ∧ w.cell? ⟨g, 3, none⟩ = some (.int .u64 x.set.w2) ∧ w.cell? ⟨g, 4, none⟩ = some (.int .u64 x.set.w3) ∧ w.cell? ⟨g, 5, none⟩ = some (.int .i64 x.a) ∧ w.cell? ⟨g, 6, none⟩ = some (.int .i64 x.b) ∧ w.cell? ⟨g, 7, none⟩ = some (.bool x.neg) :=
  ⟨At.cell h 0, At.cell h 1, At.cell h 2, At.cell h 3, At.cell h 4, At.cell h 5, At.cell h 6, At.cell h 7⟩

/- What nodes match. -/
def bitF (bits : List Nat) (a : Nat) (neg : Bool) (i j : Nat) : Bool := decide (i = j) && (decide (((bits[i]?).getD 0) >>> a % 2 = 1) != neg)
def fAt (fs : List (Nat → Nat → Bool)) (k : Int) : Nat → Nat → Bool := (fs[k.toNat]?).getD noF
def nodeF (l bits : List Nat) (fs : List (Nat → Nat → Bool)) (x : Nd) : Nat → Nat → Bool :=
  if x.kind = 1 then eqF
  else if x.kind = 2 then byteF x.set l
  else if x.kind = 3 then thenF (fAt fs x.a) (fAt fs x.b) (l.length + 1)
  else if x.kind = 4 then fun i j => fAt fs x.a i j || fAt fs x.b i j
  else if x.kind = 5 then fun i j => fAt fs x.a i j && fAt fs x.b i j
  else if x.kind = 6 then otherF (fAt fs x.a)
  else if x.kind = 7 then anyTo (fAt fs x.a) (l.length + 1) (l.length + 1)
  else if x.kind = 8 then bitF bits x.a.toNat x.neg
  else noF
def nodesF (l bits : List Nat) (ns : List Nd) : Nat → List (Nat → Nat → Bool)
  | 0 => []
  | j + 1 => nodesF l bits ns j ++ [nodeF l bits (nodesF l bits ns j) (ndAt ns j)]
theorem nodesF_length (l bits : List Nat) (ns : List Nd) : ∀ j, (nodesF l bits ns j).length = j
  | 0 => rfl
  | j + 1 => by
    show (nodesF l bits ns j ++ [_]).length = j + 1
    rw [List.length_append, nodesF_length l bits ns j]; rfl
/-- Each node names only those ahead of it; a look's number is small. -/
def NdOk (x : Nd) (j : Nat) : Prop :=
  x.set.Ok ∧ (x.kind = 3 ∨ x.kind = 4 ∨ x.kind = 5 → 0 ≤ x.a ∧ x.a < j ∧ 0 ≤ x.b ∧ x.b < j) ∧ (x.kind = 6 ∨ x.kind = 7 → 0 ≤ x.a ∧ x.a < j) ∧ (x.kind = 8 → 0 ≤ x.a ∧ x.a < 4)

end Go.Proofs.Ytcghclikkeajfaa
