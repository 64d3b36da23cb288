/- Joined: Table, Blank, One, Then, Either, Both, Any, Look, Tabs, SpansAt. -/
import Derived.Test.YtjkcbojlopdonaaWords
import Derived.Test.YtjkcbojlopdonaaMaa
import Derived.Laws.MakeOwn
import Derived.Test.YtjkcbojlopdonaaProg
import Derived.Deep.OwnRows
import Derived.Test.YtjkcbojlopdonaaMab
import Derived.BigRegion
import Derived.BigQuiet
import Derived.Test.YtjkcbojlopdonaaTr
import Derived.Laws.OwnMore
import Derived.Deep.AppendLies
/- Tables of truths ([][]bool) of the call's own: where they lie, what they say. No program is named here. -/
namespace Go.Proofs.Ytjkcbojlopdonaa
open Go.RowKit

def tabRows (r : Nat → Nat) (n : Nat) : Array Value := arr n (fun i => .slice (some ⟨r i, 0, none⟩) n n)
def boolRow (f : Nat → Bool) (n : Nat) : Array Value := arr n (fun j => .bool (f j))
theorem boolRow_set (f : Nat → Bool) (n k : Nat) (b : Bool) : (boolRow f n).setIfInBounds k (.bool b) = boolRow (fun j => if j = k then b else f j) n := by
  unfold boolRow
  rw [arr_set]
  apply arr_congr
  intro j _
  by_cases e : j = k
  · simp [e]
  · simp [e]
theorem boolRow_congr {f g : Nat → Bool} {n : Nat} (h : ∀ j, j < n → f j = g j) : boolRow f n = boolRow g n := arr_congr (fun j hj => by rw [h j hj])
/-- A table of n rows, whose blocks lie from base on. -/
structure TabAt (w : World) (E B : TypeId) (base g n : Nat) (r : Nat → Nat) (f : Nat → Nat → Bool) : Prop where
  top : At w g E (tabRows r n)
  low : base ≤ g
  row : ∀ i, i < n → At w (r i) B (boolRow (f i) n)
  rlow : ∀ i, i < n → base ≤ r i ∧ r i ≠ g
  apart : ∀ i j, i < n → j < n → i ≠ j → r i ≠ r j
section
variable {w w' w0 : World} {E B : TypeId} {base g n : Nat} {r : Nat → Nat} {f : Nat → Nat → Bool}
theorem TabAt.same (h : TabAt w E B base g n r f) (e : w0.heap = w.heap) : TabAt w0 E B base g n r f :=
  ⟨by have := h.top; unfold At at this ⊢; rw [e]; exact this, h.low, fun i hi => by have := h.row i hi; unfold At at this ⊢; rw [e]; exact this, h.rlow, h.apart⟩
theorem TabAt.next (h : TabAt w E B base g n r f) (hb : Below w.heap.size w w') : TabAt w' E B base g n r f :=
  ⟨h.top.below hb h.top.lt, h.low, fun i hi => (h.row i hi).below hb (h.row i hi).lt, h.rlow, h.apart⟩
theorem TabAt.step (h : TabAt w E B base g n r f) (hb : Below w0.heap.size w0 w') (e : w0.heap = w.heap) : TabAt w' E B base g n r f := (h.same e).next hb
theorem TabAt.drew (h : TabAt w E B base g n r f) : TabAt w.drew E B base g n r f := h.same (heap_drew w)
theorem TabAt.lower {base' : Nat} (h : TabAt w E B base g n r f) (hb : base' ≤ base) : TabAt w E B base' g n r f :=
  ⟨h.top, Nat.le_trans hb h.low, h.row, fun i hi => ⟨Nat.le_trans hb (h.rlow i hi).1, (h.rlow i hi).2⟩, h.apart⟩
theorem TabAt.congr {f' : Nat → Nat → Bool} (h : TabAt w E B base g n r f) (e : ∀ i j, i < n → j < n → f i j = f' i j) : TabAt w E B base g n r f' :=
  ⟨h.top, h.low, fun i hi => by rw [← boolRow_congr (e i · hi)]; exact h.row i hi, h.rlow, h.apart⟩
/-- One truth is written. -/
theorem TabAt.put (h : TabAt w E B base g n r f) {i : Nat} (j : Nat) (hi : i < n) (b : Bool) : TabAt (w.setCell ⟨r i, j, none⟩ (.bool b)) E B base g n r (fun i' j' => if i' = i ∧ j' = j then b else f i' j') :=
  ⟨h.top.other (fun e => (h.rlow i hi).2 e.symm) _, h.low, fun i' hi' => by
    by_cases e : i' = i
    · subst e
      have h1 := (h.row i' hi).set j (.bool b)
      rw [boolRow_set] at h1
      have h2 : boolRow (fun j' => if i' = i' ∧ j' = j then b else f i' j') n = boolRow (fun j' => if j' = j then b else f i' j') n := boolRow_congr (fun j' _ => by simp)
      rw [h2]; exact h1
    · have h1 := (h.row i' hi').other (p := ⟨r i, j, none⟩) (h.apart i' i hi' hi e) (.bool b)
      have h2 : boolRow (fun j' => if i' = i ∧ j' = j then b else f i' j') n = boolRow (f i') n := boolRow_congr (fun j' _ => by simp [e])
      rw [h2]; exact h1, h.rlow, h.apart⟩
/-- A write into another block. -/
theorem TabAt.far (h : TabAt w E B base g n r f) {p : Addr} (hp : p.block < base) (v : Value) : TabAt (w.setCell p v) E B base g n r f :=
  ⟨h.top.other (by have := h.low; omega) v, h.low, fun i hi => (h.row i hi).other (by have := (h.rlow i hi).1; omega) v, h.rlow, h.apart⟩
/-- A table that lies ahead of where a call began. -/
def TabIn (w : World) (E B : TypeId) (g n : Nat) (f : Nat → Nat → Bool) : Prop := ∃ r, TabAt w E B 0 g n r f
theorem TabIn.next (h : TabIn w E B g n f) (hb : Below w.heap.size w w') : TabIn w' E B g n f := by obtain ⟨r, h⟩ := h; exact ⟨r, h.next hb⟩
end
section
variable {w : World} {E B : TypeId} {base g n : Nat} {r : Nat → Nat} {F : Nat → Nat → Bool} {i j : Nat}
end

end Go.Proofs.Ytjkcbojlopdonaa

/- What the reference's Blank and One answer. -/
namespace Go.Proofs.Ytjkcbojlopdonaa
open Go.RowKit

end Go.Proofs.Ytjkcbojlopdonaa

/- What the reference's One and Other answer. -/
namespace Go.Proofs.Ytjkcbojlopdonaa
open Go.RowKit
set_option linter.unusedVariables false

end Go.Proofs.Ytjkcbojlopdonaa

/- What the reference's Then answers. -/
namespace Go.Proofs.Ytjkcbojlopdonaa
open Go.RowKit
set_option linter.unusedVariables false

section
variable {fa fb : Nat → Nat → Bool} {i k j n i' j' : Nat}
end

end Go.Proofs.Ytjkcbojlopdonaa

/- What the reference's Either answers. -/
namespace Go.Proofs.Ytjkcbojlopdonaa
open Go.RowKit
set_option linter.unusedVariables false

end Go.Proofs.Ytjkcbojlopdonaa

/- What the reference's Both answers. -/
namespace Go.Proofs.Ytjkcbojlopdonaa
open Go.RowKit
set_option linter.unusedVariables false

end Go.Proofs.Ytjkcbojlopdonaa

/- What the reference's Any and times answer. -/
namespace Go.Proofs.Ytjkcbojlopdonaa
open Go.RowKit
set_option linter.unusedVariables false

end Go.Proofs.Ytjkcbojlopdonaa

/- What the reference's look answers. -/
namespace Go.Proofs.Ytjkcbojlopdonaa
open Go.RowKit
set_option linter.unusedVariables false

end Go.Proofs.Ytjkcbojlopdonaa

/- A list of tables of the call's own; what a formed pattern matches, as a table. -/
namespace Go.Proofs.Ytjkcbojlopdonaa
open Go.RowKit

theorem TabAt.grown {w w' : World} {E B : TypeId} {base g n : Nat} {r : Nat → Nat} {f : Nat → Nat → Bool} {row : Option Nat} (h : TabAt w E B base g n r f) (hg : w.grownBy w' row) (h1 : some g ≠ row) (h2 : ∀ i, i < n → some (r i) ≠ row) : TabAt w' E B base g n r f :=
  ⟨(hg.block g h.top.lt h1).trans h.top, h.low, fun i hi => (hg.block (r i) (h.row i hi).lt (h2 i hi)).trans (h.row i hi), h.rlow, h.apart⟩
abbrev TG := Nat × (Nat → Nat)
section
variable {w w' w0 : World} {base n : Nat} {v : Value} {ts : List TG} {fs : List (Nat → Nat → Bool)}
end

end Go.Proofs.Ytjkcbojlopdonaa

/- What is claimed of the reference's Spans at patterns of so many levels; small facts for its walk. -/
namespace Go.Proofs.Ytjkcbojlopdonaa
open Go.RowKit

section
variable {k n : Nat} {l : List Nat} {t : Tr}
end

end Go.Proofs.Ytjkcbojlopdonaa
