/- Joined: Cl, Row. -/
import Derived.Test.YtjkcbojlopdonaaWords
import Derived.Deep.MidRow
/- Plain facts on classes: which are right, how a set parts them, what cells they are in memory. No program is named here. -/
namespace Go.Proofs.Ytjkcbojlopdonaa
open Go.RowKit

/-- A row of n cells, by place. -/
def arr (n : Nat) (g : Nat → Value) : Array Value := ((List.range n).map g).toArray
theorem arr_size (n : Nat) (g : Nat → Value) : (arr n g).size = n := by simp [arr]
theorem arr_get (n : Nat) (g : Nat → Value) (k : Nat) (h : k < n) : (arr n g)[k]? = some (g k) := by simp [arr, h]
theorem arr_congr {n : Nat} {g h : Nat → Value} (e : ∀ k, k < n → g k = h k) : arr n g = arr n h := by
  unfold arr; congr 1; apply List.map_congr_left; intro k hk; exact e k (by simpa using hk)
theorem arr_set (n : Nat) (g : Nat → Value) (k : Nat) (v : Value) : (arr n g).setIfInBounds k v = arr n (fun j => if j = k then v else g j) := by
  apply Array.ext_getElem?
  intro i
  rw [Array.getElem?_setIfInBounds]
  by_cases hi : i < n
  · rw [arr_get _ _ i hi, arr_get _ _ i hi, arr_size]
    by_cases e : k = i
    · subst e; simp [hi]
    · have e' : ¬ i = k := fun h => e h.symm
      simp [e, e']
  · have h1 : ∀ g' : Nat → Value, (arr n g')[i]? = none := fun g' => by rw [Array.getElem?_eq_none]; rw [arr_size]; omega
    rw [h1, h1, arr_size]
    by_cases e : k = i
    · subst e; simp [hi]
    · simp [e]
section
variable {w w' W : World} {g B : Nat} {t : TypeId} {cs old : Array Value}
theorem At.row (h : At w g t old) (cs : Array Value) : At (w.setRow g cs) g t cs := setRow_heap w g old cs t (0, 0) h
theorem below_row (h : Below B W w) (hg : B ≤ g) (cs : Array Value) : Below B W (w.setRow g cs) :=
  ⟨h.os, h.tape, h.output, by rw [setRow_size]; exact h.size, fun i hi => (setRow_other w g i cs (by omega)).trans (h.block i hi)⟩
theorem at_new' (w : World) (g : Nat) (t : TypeId) {cs : Array Value} (h : g = w.heap.size) : At (w.alloc (.cells cs t)) g t cs := by
  subst h; exact At.new w t cs
end

/-- Classes: which class a byte is of, and how many there are. -/
structure Cl where
  cl : Nat → Nat
  n : Int
def Cl.Ok (c : Cl) : Prop := ∀ k, k < 256 → c.cl k < 256
def Cl.g (c : Cl) (k : Nat) : Value := if k < 256 then .int .u8 (c.cl k : Nat) else .int .i64 c.n
def Cl.cells (c : Cl) : Array Value := arr 257 c.g
theorem Cl.size (c : Cl) : c.cells.size = 257 := arr_size _ _
def Cl.zero : Cl := ⟨fun _ => 0, 0⟩
def Cl.one : Cl := ⟨fun _ => 0, 1⟩
/- Which classes are right. -/
def rstep (s : Option Nat) (x : Nat) : Option Nat := s.bind fun m => if m < x then none else if x = m then some (m + 1) else some m
def Cl.met (c : Cl) : Nat → Option Nat
  | 0 => some 0
  | k + 1 => rstep (c.met k) (c.cl k)
def Cl.right (c : Cl) : Bool := match c.met 256 with | none => false | some m => c.n == (m : Int)
/- Keys in the order in which they come up. -/
def nub (f : Nat → Nat) : Nat → List Nat
  | 0 => []
  | k + 1 => if f k ∈ nub f k then nub f k else nub f k ++ [f k]
/-- A byte's key: its class, and whether the set has it. -/
def Cl.key (c : Cl) (s : St) (b : Nat) : Nat := 2 * c.cl b + (if s.has b then 1 else 0)
/-- What 'part' has laid when the first k bytes are done. -/
def Cl.partTo (c : Cl) (s : St) (k : Nat) : Cl := ⟨fun b => if b < k then (nub (c.key s) k).idxOf (c.key s b) else 0, ((nub (c.key s) k).length : Nat)⟩
def Cl.part (c : Cl) (s : St) : Cl := c.partTo s 256
/- Classes made of sets. -/
def alike (l : List St) (a b : Nat) : Bool := l.all (fun s => s.has a == s.has b)
/- The rows of 'given' and 'number' while 'part' runs. -/
/-- A slice of sets that reads as l (its address is asked for only where it has sets). -/
def IsSets (W : World) (A : Option Addr) (n : Nat) (l : List St) : Prop :=
  n = l.length ∧ n ≤ 9223372036854775807 ∧ (∀ (k : Nat) (h : k < l.length), l[k].Ok) ∧
  (0 < n → ∃ b off, A = some ⟨b, off, none⟩ ∧ b < W.heap.size ∧ ∀ (k : Nat) (h : k < l.length),
    W.cell? ⟨b, off + k * 4, none⟩ = some (.int .u64 l[k].w0) ∧ W.cell? ⟨b, off + k * 4 + 1, none⟩ = some (.int .u64 l[k].w1) ∧ W.cell? ⟨b, off + k * 4 + 2, none⟩ = some (.int .u64 l[k].w2) ∧ W.cell? ⟨b, off + k * 4 + 3, none⟩ = some (.int .u64 l[k].w3))
theorem IsSets.below {W w : World} {A : Option Addr} {n : Nat} {l : List St} {B : Nat} (h : IsSets W A n l) (hB : W.heap.size ≤ B) (hb : Below B W w) : IsSets w A n l :=
  ⟨h.1, h.2.1, h.2.2.1, fun hn => by
    obtain ⟨b, off, e, hlt, hc⟩ := h.2.2.2 hn
    refine ⟨b, off, e, Nat.lt_of_lt_of_le hlt hb.size, fun k hk => ?_⟩
    obtain ⟨c0, c1, c2, c3⟩ := hc k hk
    exact ⟨((bcell hb).1 b _ (by omega)).trans c0, ((bcell hb).1 b _ (by omega)).trans c1, ((bcell hb).1 b _ (by omega)).trans c2, ((bcell hb).1 b _ (by omega)).trans c3⟩⟩
theorem IsSets.next {W w : World} {A : Option Addr} {n : Nat} {l : List St} (h : IsSets W A n l) (hb : Below W.heap.size W w) : IsSets w A n l := h.below (Nat.le_refl _) hb
theorem IsSets.drew {W : World} {A : Option Addr} {n : Nat} {l : List St} (h : IsSets W A n l) : IsSets W.drew A n l := h
theorem IsSets.nil (W : World) (A : Option Addr) : IsSets W A 0 [] := ⟨rfl, by omega, fun k h => by simp at h, fun h => by omega⟩
/- '==' on two classes that are the same. -/
section
variable {P : Program}
end

end Go.Proofs.Ytjkcbojlopdonaa

/- Rows of classes: read whole, read by an index; blocks that stand behind a call. -/
namespace Go.Proofs.Ytjkcbojlopdonaa
open Go.RowKit

theorem wpList_load_row_want {P : Program} {ops : Array Oper} {rest : List Oper} {o : Oper} {a : Act} {w : World} {Q : Exit → Act → World → Prop} (hw : Region.wanted o (yielded ops a.tmps) = true) (ty : TypeId) (x : Operand) (ho : o.op = .load ty x)
    (g : Nat) (hx : a.eval x = .pointer (some ⟨g, 0, none⟩)) (t : TypeId) (cs : Array Value) (fr : Nat × Nat) (d : TypeDesc) (hg : w.heap[g]? = some (.cells cs t fr))
    (hu : P.underlying ty = some d) (hd : (match d with | .struct _ | .array _ _ => true | _ => false) = true) (hi : (P.info? ty).map (·.size) = some cs.size)
    (h : wpList P ops Q rest (a.put o.dst (.agg cs)) w) : wpList P ops Q (o :: rest) a w :=
  wpList_step fun K hK => by rw [if_pos hw]; exact wp_load_row ty x ho g hx t cs fr d hg hu hd hi (hK _ _ h)
theorem At.step {w w0 w' : World} {g : Nat} {t : TypeId} {cs : Array Value} (h : At w g t cs) (hb : Below w0.heap.size w0 w') (e : w0.heap = w.heap) : At w' g t cs := by
  have h0 : At w0 g t cs := by unfold At at h ⊢; rw [e]; exact h
  exact h0.below hb h0.lt

end Go.Proofs.Ytjkcbojlopdonaa
