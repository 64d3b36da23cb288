/- Plain facts on sets of four words: which byte a set has, and what the words of "or", "and", "without" and "not" are. No program is named here. -/
import Derived.WalkKit
import Derived.WalkSpells
import Derived.WalkLawsBesides
import Derived.Laws.BitsAllLaws
import Derived.Lib.Hide
import Derived.ChangeKeysEq
import Derived.Laws.StructEq
namespace Go.Proofs.Ytjkcbojlopdonaa
open Go.RowKit

def U64 (n : Nat) : Prop := n < 18446744073709551616

structure St where
  w0 : Nat
  w1 : Nat
  w2 : Nat
  w3 : Nat

def St.word (s : St) (i : Nat) : Nat := if i = 0 then s.w0 else if i = 1 then s.w1 else if i = 2 then s.w2 else s.w3
def St.has (s : St) (x : Nat) : Bool := (s.word (x / 64)).testBit (x % 64)
structure St.Ok (s : St) : Prop where
  o0 : U64 s.w0
  o1 : U64 s.w1
  o2 : U64 s.w2
  o3 : U64 s.w3
theorem St.Ok.word {s : St} (h : s.Ok) (i : Nat) : U64 (s.word i) := by
  unfold St.word
  split
  · exact h.o0
  · split
    · exact h.o1
    · split
      · exact h.o2
      · exact h.o3

def hv (a k : Nat) : Nat := a / 2 ^ k
def St.or (s t : St) : St := ⟨s.w0 ||| t.w0, s.w1 ||| t.w1, s.w2 ||| t.w2, s.w3 ||| t.w3⟩
def St.and (s t : St) : St := ⟨s.w0 &&& t.w0, s.w1 &&& t.w1, s.w2 &&& t.w2, s.w3 &&& t.w3⟩
def M64 : Nat := 18446744073709551615
def St.not (s : St) : St := ⟨M64 - s.w0, M64 - s.w1, M64 - s.w2, M64 - s.w3⟩
def pw (r : Nat) : Nat := 2 ^ r
def St.put (s : St) (b : Nat) : St :=
  if b / 64 = 0 then ⟨s.w0 ||| pw (b % 64), s.w1, s.w2, s.w3⟩
  else if b / 64 = 1 then ⟨s.w0, s.w1 ||| pw (b % 64), s.w2, s.w3⟩
  else if b / 64 = 2 then ⟨s.w0, s.w1, s.w2 ||| pw (b % 64), s.w3⟩
  else ⟨s.w0, s.w1, s.w2, s.w3 ||| pw (b % 64)⟩
/- A block of memory that is known whole. -/
def At (w : World) (g : Nat) (t : TypeId) (cs : Array Value) : Prop := w.heap[g]? = some (.cells cs t (0, 0))
section
variable {w w' : World} {g : Nat} {t : TypeId} {cs : Array Value}
theorem At.cell (h : At w g t cs) (i : Nat) : w.cell? ⟨g, i, none⟩ = cs[i]? := cell_of_row w g i cs t (0, 0) h
theorem At.free (h : At w g t cs) (i : Nat) : w.frozen? ⟨g, i, none⟩ = false := frozen_of_row w g i cs t h
theorem At.lt (h : At w g t cs) : g < w.heap.size := by
  by_cases hlt : g < w.heap.size
  · exact hlt
  · unfold At at h
    rw [Array.getElem?_eq_none (by omega)] at h
    cases h
theorem At.drew (h : At w g t cs) : At w.drew g t cs := h
theorem At.drewN (h : At w g t cs) (n : Nat) : At (w.drewN n) g t cs := h
theorem At.alloc (h : At w g t cs) (o : Obj) : At (w.alloc o) g t cs := (Below.heap_alloc w o g h.lt).trans h
theorem At.new (w : World) (t : TypeId) (cs : Array Value) : At (w.alloc (.cells cs t)) w.heap.size t cs := heap_alloc_new w _
theorem At.set (h : At w g t cs) (i : Nat) (v : Value) : At (w.setCell ⟨g, i, none⟩ v) g t (cs.setIfInBounds i v) := heap_setCell_same w g i cs t v h
theorem At.other (h : At w g t cs) {p : Addr} (hne : g ≠ p.block) (v : Value) : At (w.setCell p v) g t cs := (Below.heap_setCell w p v g hne).trans h
theorem At.below {B : Nat} (h : At w g t cs) (hb : Below B w w') (hg : g < B) : At w' g t cs := (hb.block g hg).trans h
end
def c4 (a b c d : Nat) : Array Value := #[.int .u64 a, .int .u64 b, .int .u64 c, .int .u64 d]
/-- A set lies in block g. -/
def SetAt (w : World) (g : Nat) (t : TypeId) (s : St) : Prop := At w g t #[.int .u64 s.w0, .int .u64 s.w1, .int .u64 s.w2, .int .u64 s.w3]
theorem SetAt.cells {w : World} {g : Nat} {t : TypeId} {s : St} (h : SetAt w g t s) :
    w.cell? ⟨g, 0, none⟩ = some (.int .u64 s.w0) ∧ w.cell? ⟨g, 1, none⟩ = some (.int .u64 s.w1) ∧ w.cell? ⟨g, 2, none⟩ = some (.int .u64 s.w2) ∧ w.cell? ⟨g, 3, none⟩ = some (.int .u64 s.w3) :=
  ⟨At.cell h 0, At.cell h 1, At.cell h 2, At.cell h 3⟩
theorem SetAt.store {w : World} {g : Nat} {t : TypeId} {s : St} (h : SetAt w g t s) (u : St) :
    SetAt ((((w.setCell ⟨g, 0, none⟩ (.int .u64 u.w0)).setCell ⟨g, 1, none⟩ (.int .u64 u.w1)).setCell ⟨g, 2, none⟩ (.int .u64 u.w2)).setCell ⟨g, 3, none⟩ (.int .u64 u.w3)) g t u :=
  (((At.set h 0 _).set 1 _).set 2 _).set 3 _
theorem SetAt.below {B : Nat} {w w' : World} {g : Nat} {t : TypeId} {s : St} (h : SetAt w g t s) (hb : Below B w w') (hg : g < B) : SetAt w' g t s := At.below h hb hg
theorem SetAt.lt {w : World} {g : Nat} {t : TypeId} {s : St} (h : SetAt w g t s) : g < w.heap.size := At.lt h
theorem SetAt.next {w w' : World} {g : Nat} {t : TypeId} {s : St} (h : SetAt w g t s) (hb : Below w.heap.size w w') : SetAt w' g t s := At.below h hb h.lt
theorem SetAt.other {w : World} {g : Nat} {t : TypeId} {s : St} (h : SetAt w g t s) {g' : Nat} (hne : g ≠ g') (u : St) :
    SetAt ((((w.setCell ⟨g', 0, none⟩ (.int .u64 u.w0)).setCell ⟨g', 1, none⟩ (.int .u64 u.w1)).setCell ⟨g', 2, none⟩ (.int .u64 u.w2)).setCell ⟨g', 3, none⟩ (.int .u64 u.w3)) g t s :=
  At.other (At.other (At.other (At.other h hne _) hne _) hne _) hne _
theorem SetAt.drew {w : World} {g : Nat} {t : TypeId} {s : St} (h : SetAt w g t s) : SetAt w.drew g t s := h
theorem SetAt.drewN {w : World} {g : Nat} {t : TypeId} {s : St} (h : SetAt w g t s) (n : Nat) : SetAt (w.drewN n) g t s := h
theorem SetAt.alloc {w : World} {g : Nat} {t : TypeId} {s : St} (h : SetAt w g t s) (o : Obj) : SetAt (w.alloc o) g t s := At.alloc h o
theorem SetAt.new (w : World) (t : TypeId) (s : St) : SetAt (w.alloc (.cells #[.int .u64 s.w0, .int .u64 s.w1, .int .u64 s.w2, .int .u64 s.w3] t)) w.heap.size t s := At.new _ _ _
/-- What a call leaves alone, where it began in the world w0: w, or w behind draws. -/
theorem SetAt.step {w w0 w' : World} {g : Nat} {t : TypeId} {s : St} (h : SetAt w g t s) (hb : Below w0.heap.size w0 w') (e : w0.heap = w.heap) : SetAt w' g t s := by
  have h0 : SetAt w0 g t s := by unfold SetAt At at h ⊢; rw [e]; exact h
  exact h0.next hb
theorem below_step {W w w0 w' : World} (h : Below W.heap.size W w) (hb : Below w0.heap.size w0 w') (e : w0.heap = w.heap) (e1 : w0.os = w.os) (e2 : w0.tape = w.tape) (e3 : w0.output = w.output) : Below W.heap.size W w' :=
  Below.trans ⟨e1.trans h.os, e2.trans h.tape, e3.trans h.output, by rw [e]; exact h.size, fun i hi => by rw [e]; exact h.block i hi⟩ (hb.mono (by rw [e]; exact h.size))
theorem bcell {W w1 : World} {B : Nat} (hb : Below B W w1) :
    (∀ b o, b < B → w1.cell? ⟨b, o, none⟩ = W.cell? ⟨b, o, none⟩) ∧ (∀ b o, b < B → w1.frozen? ⟨b, o, none⟩ = W.frozen? ⟨b, o, none⟩) :=
  ⟨fun b o h => hb.cell (p := ⟨b, o, none⟩) h, fun b o h => hb.frozen (p := ⟨b, o, none⟩) h⟩

/-- A slice of bytes that reads as l (its address is asked for only where it has bytes). -/
def IsBytes (W : World) (A : Option Addr) (n : Nat) (l : List Nat) : Prop :=
  n = l.length ∧ n ≤ 9223372036854775807 ∧ (∀ (k : Nat) (h : k < l.length), l[k] < 256) ∧
  (0 < n → ∃ b off, A = some ⟨b, off, none⟩ ∧ b < W.heap.size ∧ ∀ (k : Nat) (h : k < l.length), W.cell? ⟨b, off + k, none⟩ = some (.int .u8 l[k]))
theorem IsBytes.below {W w : World} {A : Option Addr} {n : Nat} {l : List Nat} (h : IsBytes W A n l) (hb : Below W.heap.size W w) : IsBytes w A n l :=
  ⟨h.1, h.2.1, h.2.2.1, fun hn => by
    obtain ⟨b, off, e, hlt, hc⟩ := h.2.2.2 hn
    exact ⟨b, off, e, Nat.lt_of_lt_of_le hlt hb.size, fun k hk => ((bcell hb).1 b _ hlt).trans (hc k hk)⟩⟩
theorem IsBytes.drew {W : World} {A : Option Addr} {n : Nat} {l : List Nat} (h : IsBytes W A n l) : IsBytes W.drew A n l := h

/- '==' on two sets. -/
def St.eqb (s t : St) : Bool := (s.w0 == t.w0) && ((s.w1 == t.w1) && ((s.w2 == t.w2) && (s.w3 == t.w3)))
theorem St.eqb_iff (s t : St) : s.eqb t = true ↔ s = t := by
  cases s; cases t
  simp [St.eqb]
theorem St.eqb_self (s : St) : s.eqb s = true := (St.eqb_iff s s).2 rfl
theorem beq_cast (a b : Nat) : ((a : Int) == (b : Int)) = (a == b) := by
  rw [Bool.eq_iff_iff]; simp only [beq_iff_eq]; omega
theorem run_set_eq {P : Program} {T E : TypeId} (hu : P.underlying T = some (.array 4 E)) (hi0 : (P.info? E).isSome = true) (hE : P.underlying E = some (.int .u64)) (hc : P.cellsOf E = 1) (d : Nat) (w : World) (s t : St) :
    (Op.equalIn (d + 2) T (.agg #[.int .u64 s.w0, .int .u64 s.w1, .int .u64 s.w2, .int .u64 s.w3]) (.agg #[.int .u64 t.w0, .int .u64 t.w1, .int .u64 t.w2, .int .u64 t.w3])).run P w = .ok (s.eqb t) w := by
  obtain ⟨i, hi⟩ := Option.isSome_iff_exists.1 hi0
  rw [show d + 2 = (d + 1) + 1 from rfl, run_equalIn_array w (d + 1) _ _ hu hi, hc]
  have hr : List.range 4 = [0, 1, 2, 3] := by decide
  rw [hr]
  have hp : ∀ (a0 a1 a2 a3 : Value), (part E #[a0, a1, a2, a3] 0).run P w = .ok a0 w ∧ (part E #[a0, a1, a2, a3] 1).run P w = .ok a1 w ∧
      (part E #[a0, a1, a2, a3] 2).run P w = .ok a2 w ∧ (part E #[a0, a1, a2, a3] 3).run P w = .ok a3 w := by
    intro a0 a1 a2 a3
    refine ⟨?_, ?_, ?_, ?_⟩ <;> simp [part, isAgg, run_underlying hE]
  obtain ⟨p0, p1, p2, p3⟩ := hp (.int .u64 s.w0) (.int .u64 s.w1) (.int .u64 s.w2) (.int .u64 s.w3)
  obtain ⟨q0, q1, q2, q3⟩ := hp (.int .u64 t.w0) (.int .u64 t.w1) (.int .u64 t.w2) (.int .u64 t.w3)
  have he : ∀ a b : Nat, (Op.equalIn (d + 1) E (.int .u64 a) (.int .u64 b)).run P w = .ok (a == b) w := by
    intro a b
    rw [run_equalIn_int w d E .u64 .u64 _ _ hE, ← beq_cast]
  have hs : ∀ (xs ys : Array Value) (k : Nat) (r : List Nat) (a b : Nat), (part E xs k).run P w = .ok (.int .u64 a) w → (part E ys k).run P w = .ok (.int .u64 b) w →
      (Op.eqItems (d + 1) E 1 xs ys (k :: r)).run P w = bif a == b then (Op.eqItems (d + 1) E 1 xs ys r).run P w else .ok false w := by
    intro xs ys k r a b h1 h2
    simp only [Op.eqItems, Sem.run_bind, Nat.mul_one, h1, h2, he, Result.andThen_ok]
    cases a == b <;> simp
  rw [hs _ _ 0 _ _ _ p0 q0, hs _ _ 1 _ _ _ p1 q1, hs _ _ 2 _ _ _ p2 q2, hs _ _ 3 _ _ _ p3 q3]
  have hn : ∀ xs ys : Array Value, (Op.eqItems (d + 1) E 1 xs ys []).run P w = .ok true w := fun xs ys => by simp [Op.eqItems]
  rw [hn]
  unfold St.eqb
  cases s.w0 == t.w0 <;> cases s.w1 == t.w1 <;> cases s.w2 == t.w2 <;> cases s.w3 == t.w3 <;> rfl

end Go.Proofs.Ytjkcbojlopdonaa
