/- Joined: FewSlim, Node, NodeEq, NodeRight, OpenNodes, Own, NodeBelow. -/
import Derived.Test.YtjkcbojlopdonaaFew
import Derived.Test.YtjkcbojlopdonaaMai
import Derived.Test.YtjkcbojlopdonaaMac
import Derived.Test.YtjkcbojlopdonaaMae
import Derived.Test.YtjkcbojlopdonaaMaa
import Derived.StillTailTactics
import Derived.Deep.QuietTactic
import Derived.BigQuiet
import Derived.Test.YtjkcbojlopdonaaProg
import Derived.Test.YtjkcbojlopdonaaWords
import Derived.Laws.OwnMore
import Derived.Deep.AppendLies
/- A pattern that the laws look at has few parts everywhere. No program is walked here. -/
namespace Go.Proofs.Ytjkcbojlopdonaa
open Go.RowKit

theorem nodesS_pos {w : World} : ∀ (k : Nat) (m : Int) (t : Tr), Tr.In w k t → 0 ≤ m → 1 ≤ nodesS k m t
  | 0, _, _, h, _ => h.elim
  | k + 1, m, t, h, hm => by
    rw [show nodesS (k + 1) m t = if m < 1 then 5000 else cfold (t.parts.map (nodesS k (m - 1))) 1 from rfl]
    split
    · omega
    · have := cfold_bounds (5000 + 2000 * (m - 1)) (by omega) (t.parts.map (nodesS k (m - 1))) 1 (by
        intro x hx
        rw [List.mem_map] at hx
        obtain ⟨p, _, rfl⟩ := hx
        exact nodesS_bounds k (m - 1) p (by omega)) (by omega) (by omega)
      omega
theorem cfold_few : ∀ (l : List Int) (n : Int), (∀ x ∈ l, 1 ≤ x) → cfold l n ≤ 2000 → (l.length : Int) + n ≤ 2000 ∧ ∀ x ∈ l, 1 ≤ n → x ≤ 2000
  | [], n, _, h => by
    have : n ≤ 2000 := h
    exact ⟨by simp; omega, fun x hx => by cases hx⟩
  | x :: r, n, hl, h => by
    have hx := hl x (by simp)
    have h' : (if 2000 < n + x then n + x else cfold r (n + x)) ≤ 2000 := h
    split at h'
    · omega
    · have ih := cfold_few r (n + x) (fun y hy => hl y (List.mem_cons_of_mem _ hy)) h'
      refine ⟨by rw [List.length_cons]; have := ih.1; omega, fun y hy hn => ?_⟩
      rcases List.mem_cons.1 hy with rfl | hy
      · omega
      · exact ih.2 y hy (by omega)
end Go.Proofs.Ytjkcbojlopdonaa

/- Nodes: as data, as cells, and what they match as tables. -/
namespace Go.Proofs.Ytjkcbojlopdonaa
open Go.RowKit
set_option linter.unusedSimpArgs false
set_option linter.unusedVariables false

structure Nd where
  kind : Int
  set : St
  a : Int
  b : Int
  neg : Bool
def Nd.cs (x : Nd) : List Value := [.int .i64 x.kind, .int .u64 x.set.w0, .int .u64 x.set.w1, .int .u64 x.set.w2, .int .u64 x.set.w3, .int .i64 x.a, .int .i64 x.b, .bool x.neg]
theorem Nd.cs_length (x : Nd) : x.cs.length = 8 := rfl
theorem Nd.one (x : Nd) : x.cs.toArray.all (·.oneCell') = true := by simp [Nd.cs, Value.oneCell']
def Nd.zero : Nd := ⟨0, ⟨0, 0, 0, 0⟩, 0, 0, false⟩
def ndAt (l : List Nd) (j : Nat) : Nd := (l[j]?).getD Nd.zero
/-- Nodes in a row. -/
def NdsAt (w : World) (v : Value) (l : List Nd) : Prop :=
  ∃ A cap, v = .slice A l.length cap ∧ l.length ≤ 9223372036854775807 ∧ (0 < l.length → ∃ b off, A = some ⟨b, off, none⟩ ∧ b < w.heap.size ∧ ∀ (j : Nat) (h : j < l.length), w.rangeAt b (off + j * 8) (ndAt l j).cs)
theorem NdsAt.next {w w' : World} {v : Value} {l : List Nd} (h : NdsAt w v l) (hb : Below w.heap.size w w') : NdsAt w' v l := by
  obtain ⟨A, cap, h1, h2, h3⟩ := h
  refine ⟨A, cap, h1, h2, fun h0 => ?_⟩
  obtain ⟨b, off, e, hlt, hr⟩ := h3 h0
  exact ⟨b, off, e, Nat.lt_of_lt_of_le hlt hb.size, fun j hj => fun i v hv => ((bcell hb).1 b _ hlt).trans (hr j hj i v hv)⟩
theorem NdsAt.len {w : World} {A : Option Addr} {n c : Nat} {l : List Nd} (h : NdsAt w (.slice A n c) l) : n = l.length := by
  obtain ⟨A', cap, h1, _⟩ := h
  injection h1
theorem Nd.cells {w : World} {g : Nat} {t : TypeId} {x : Nd} (h : At w g t x.cs.toArray) : w.cell? ⟨g, 0, none⟩ = some (.int .i64 x.kind) ∧ w.cell? ⟨g, 1, none⟩ = some (.int .u64 x.set.w0) ∧ w.cell? ⟨g, 2, none⟩ = some (.int .u64 x.set.w1) ∧ w.cell? ⟨g, 3, none⟩ = some (.int .u64 x.set.w2) ∧ w.cell? ⟨g, 4, none⟩ = some (.int .u64 x.set.w3) ∧ w.cell? ⟨g, 5, none⟩ = some (.int .i64 x.a) ∧ w.cell? ⟨g, 6, none⟩ = some (.int .i64 x.b) ∧ w.cell? ⟨g, 7, none⟩ = some (.bool x.neg) :=
  ⟨At.cell h 0, At.cell h 1, At.cell h 2, At.cell h 3, At.cell h 4, At.cell h 5, At.cell h 6, At.cell h 7⟩

/- What nodes match. -/
/-- Each node names only those ahead of it; a look's number is small. -/
def NdOk (x : Nd) (j : Nat) : Prop :=
  x.set.Ok ∧ (x.kind = 3 ∨ x.kind = 4 ∨ x.kind = 5 → 0 ≤ x.a ∧ x.a < j ∧ 0 ≤ x.b ∧ x.b < j) ∧ (x.kind = 6 ∨ x.kind = 7 → 0 ≤ x.a ∧ x.a < j) ∧ (x.kind = 8 → 0 ≤ x.a ∧ x.a < 4)

end Go.Proofs.Ytjkcbojlopdonaa

/- '==' on two nodes. -/
namespace Go.Proofs.Ytjkcbojlopdonaa
open Go.RowKit
set_option linter.unusedSimpArgs false

def Nd.eqb (x y : Nd) : Bool := x.kind == y.kind && (x.set.eqb y.set && (x.a == y.a && (x.b == y.b && x.neg == y.neg)))
theorem Nd.eqb_iff (x y : Nd) : x.eqb y = true ↔ x = y := by
  cases x; cases y
  simp [Nd.eqb, St.eqb_iff]
theorem Nd.eqb_self (x : Nd) : x.eqb x = true := (Nd.eqb_iff x x).2 rfl
end Go.Proofs.Ytjkcbojlopdonaa

/- bolterref09.Right: may a node be put behind so many? -/
namespace Go.Proofs.Ytjkcbojlopdonaa
open Go.RowKit
set_option linter.unusedSimpArgs false
set_option linter.unusedVariables false

def aIn (a : Int) (n : Int) : Bool := decide (0 ≤ a) && decide (a < n)
def noSt : St := ⟨0, 0, 0, 0⟩
def Nd.bare (x : Nd) : Nd := ⟨x.kind, noSt, 0, 0, false⟩
def Nd.right (x : Nd) (n : Nat) : Bool :=
  if x.kind = 0 ∨ x.kind = 1 then x.eqb x.bare
  else if x.kind = 2 then x.eqb ⟨x.kind, x.set, 0, 0, false⟩
  else if x.kind = 3 ∨ x.kind = 4 ∨ x.kind = 5 then x.eqb ⟨x.kind, noSt, x.a, x.b, false⟩ && aIn x.a n && aIn x.b n
  else if x.kind = 6 ∨ x.kind = 7 then x.eqb ⟨x.kind, noSt, x.a, 0, false⟩ && aIn x.a n
  else if x.kind = 8 then x.eqb ⟨x.kind, noSt, x.a, 0, x.neg⟩ && aIn x.a 4
  else false
end Go.Proofs.Ytjkcbojlopdonaa

/- Nodes that are handed in, one or a list: as data and as cells. -/
namespace Go.Proofs.Ytjkcbojlopdonaa
open Go.ChangeShapes Go.WideShapes Go.ChangeAt Go.RowKit

instance : Inhabited Nd := ⟨Nd.zero⟩
/-- What a node's fields can hold at all. -/
def NdFit (x : Nd) : Prop := I64 x.kind ∧ x.set.Ok ∧ I64 x.a ∧ I64 x.b
section
variable {H : Type} {enc : TypeId × Value → H} {P : Program} {w : World} {base : Nat} {spare : Nat → Bool} {held : Bool}
end

end Go.Proofs.Ytjkcbojlopdonaa

/- Slices of the call's own: a row of whole numbers that reads as a list. No program is named here. -/
namespace Go.Proofs.Ytjkcbojlopdonaa
open Go.RowKit

theorem below_grown {w w' : World} (hb : Below w.heap.size w w') (row : Option Nat) : w.grownBy w' row := ⟨hb.os, hb.tape, hb.output, hb.size, fun i hi _ => hb.block i hi⟩
theorem SetAt.grown {w w' : World} {g : Nat} {t : TypeId} {s : St} {row : Option Nat} (h : SetAt w g t s) (hg : w.grownBy w' row) (hr : ∀ k, row = some k → g < k) : SetAt w' g t s :=
  (hg.block g h.lt (fun e => by have := hr g e.symm; omega)).trans h
/-- v is a slice of the call's own (in a block from base on) whose elements, whole numbers of kind k and type e, are l. -/
def IntRow (w : World) (base : Nat) (e : TypeId) (k : IntKind) (v : Value) (l : List Nat) : Prop := w.ownsRow base e 1 v l.length (l.map (fun b => Value.int k (b : Nat)))
section
variable {w w' w0 : World} {base : Nat} {e : TypeId} {k : IntKind} {v : Value} {l : List Nat}
theorem IntRow.nil (w : World) (base : Nat) (e : TypeId) (k : IntKind) : IntRow w base e k (.slice none 0 0) [] := World.ownsRow_nil w base e 1
theorem IntRow.heap (h : IntRow w base e k v l) (hh : w0.heap = w.heap) : IntRow w0 base e k v l := by
  unfold IntRow World.ownsRow at h ⊢
  rw [hh]
  exact h
theorem IntRow.drew (h : IntRow w base e k v l) : IntRow w.drew base e k v l := h.heap rfl
theorem IntRow.grown {row : Option Nat} (h : IntRow w base e k v l) (hg : w.grownBy w' row) (hr : v.ownBlock = none ∨ v.ownBlock ≠ row) : IntRow w' base e k v l := World.ownsRow.kept h hg hr
theorem IntRow.next (h : IntRow w base e k v l) (hb : Below w.heap.size w w') : IntRow w' base e k v l :=
  World.ownsRow.kept (row := none) h (below_grown hb none) (by cases hv : v.ownBlock <;> simp)
theorem IntRow.step (h : IntRow w base e k v l) (hb : Below w0.heap.size w0 w') (hh : w0.heap = w.heap) : IntRow w' base e k v l := (h.heap hh).next hb
theorem IntRow.alloc (h : IntRow w base e k v l) (o : Obj) : IntRow (w.alloc o) base e k v l := World.ownsRow.alloc h o
theorem IntRow.mono {base' : Nat} (h : IntRow w base e k v l) (hb : base' ≤ base) : IntRow w base' e k v l := by
  refine ⟨h.1, ?_⟩
  rcases h.2 with hn | ⟨g, cap, cur, hv, hbg, rest⟩
  · exact .inl hn
  · exact .inr ⟨g, cap, cur, hv, by omega, rest⟩
theorem IntRow.len (h : IntRow w base e k v l) : ∃ A cap, v = .slice A l.length cap := by
  rcases h.2 with ⟨rfl, hn⟩ | ⟨g, cap, cur, rfl, _⟩
  · exact ⟨none, 0, by rw [hn]⟩
  · exact ⟨_, _, rfl⟩
theorem IntRow.form (h : IntRow w base e k v l) (hn : 0 < l.length) : ∃ g cap, v = .slice (some ⟨g, 0, none⟩) l.length cap ∧ base ≤ g ∧ g < w.heap.size ∧ l.length ≤ cap ∧ cap ≤ maxLen := by
  rcases h.2 with ⟨rfl, h0⟩ | ⟨g, cap, cur, rfl, hb, hg, hc, hm, _⟩
  · omega
  · exact ⟨g, cap, rfl, hb, (Array.getElem?_eq_some_iff.1 hg).1, hc, hm⟩
theorem IntRow.at {g cap n : Nat} (h : IntRow w base e k (.slice (some ⟨g, 0, none⟩) n cap) l) (j : Nat) (hj : j < l.length) : w.cell? ⟨g, j, none⟩ = some (.int k (l[j] : Nat)) := by
  have hl : n = l.length := by
    rcases h.2 with ⟨hv, _⟩ | ⟨g', cap', cur, hv, _⟩
    · cases hv
    · injection hv
  subst hl
  rw [World.ownsRow.cellAt h j (by omega)]
  simp [hj]
theorem IntRow.max (h : IntRow w base e k v l) : l.length ≤ maxLen := by
  rcases h.2 with ⟨_, h0⟩ | ⟨g, cap, cur, _, _, _, hc, hm, _⟩
  · rw [h0]; exact Nat.zero_le _
  · omega
theorem IntRow.low (h : IntRow w base e k v l) : ∀ g, v.ownBlock = some g → base ≤ g := fun g hg => (World.ownsRow.lt h g hg).1
theorem IntRow.push {b : Nat} (h : w.ownsRow base e 1 v (l.length + 1) (l.map (fun b => Value.int k (b : Nat)) ++ [Value.int k (b : Nat)])) : IntRow w base e k v (l ++ [b]) := by
  unfold IntRow
  simpa using h
end

end Go.Proofs.Ytjkcbojlopdonaa

/- bolterlaw09.below: is a node below another one, or itself? -/
namespace Go.Proofs.Ytjkcbojlopdonaa
open Go.RowKit
set_option linter.unusedSimpArgs false
set_option linter.unusedVariables false

end Go.Proofs.Ytjkcbojlopdonaa
