/- Tables of truths ([][]bool) of the call's own: where they lie, what they say. No program is named here. -/
import Derived.Test.YtoicbahkoejhjaaWords
import Derived.Test.YtoicbahkoejhjaaCl
import Derived.Test.YtoicbahkoejhjaaRow
import Derived.Laws.MakeOwn
namespace Go.Proofs.Ytoicbahkoejhjaa
open Go.RowKit

def tabRows (r : Nat → Nat) (n : Nat) : Array Value := arr n (fun i => .slice (some ⟨r i, 0, none⟩) n n)
def boolRow (f : Nat → Bool) (n : Nat) : Array Value := arr n (fun j => .bool (f j))
/-- While a blank table is made: k rows are there. -/
def someRows (r : Nat → Nat) (n k : Nat) : Array Value := arr n (fun i => if i < k then .slice (some ⟨r i, 0, none⟩) n n else .slice none 0 0)
theorem someRows_zero (r : Nat → Nat) (n : Nat) : someRows r n 0 = madeCells #[.slice none 0 0] n := by
  unfold someRows arr madeCells
  apply Array.ext_getElem?
  intro i
  by_cases hi : i < n <;> simp [hi, Nat.mod_one]
theorem someRows_all (r : Nat → Nat) (n : Nat) : someRows r n n = tabRows r n := arr_congr (fun k hk => by rw [if_pos hk])
theorem someRows_set (r : Nat → Nat) (n k : Nat) : (someRows r n k).setIfInBounds k (.slice (some ⟨r k, 0, none⟩) n n) = someRows r n (k + 1) := by
  unfold someRows
  rw [arr_set]
  apply arr_congr
  intro j _
  by_cases e : j = k
  · subst e; rw [if_pos rfl, if_pos (by omega)]
  · rw [if_neg e]
    by_cases h : j < k
    · rw [if_pos h, if_pos (by omega)]
    · rw [if_neg h, if_neg (by omega)]
theorem boolRow_zero (n : Nat) : boolRow (fun _ => false) n = madeCells #[.bool false] n := by
  unfold boolRow arr madeCells
  apply Array.ext_getElem?
  intro i
  by_cases hi : i < n <;> simp [hi, Nat.mod_one]
theorem boolRow_set (f : Nat → Bool) (n k : Nat) (b : Bool) : (boolRow f n).setIfInBounds k (.bool b) = boolRow (fun j => if j = k then b else f j) n := by
  unfold boolRow
  rw [arr_set]
  apply arr_congr
  intro j _
  by_cases e : j = k
  · simp [e]
  · simp [e]
theorem boolRow_congr {f g : Nat → Bool} {n : Nat} (h : ∀ j, j < n → f j = g j) : boolRow f n = boolRow g n := arr_congr (fun j hj => by rw [h j hj])
/-- A table of n rows, whose blocks lie from base on. -/
structure TabAt (w : World) (E B : TypeId) (base g n : Nat) (r : Nat → Nat) (f : Nat → Nat → Bool) : Prop where
  top : At w g E (tabRows r n)
  low : base ≤ g
  row : ∀ i, i < n → At w (r i) B (boolRow (f i) n)
  rlow : ∀ i, i < n → base ≤ r i ∧ r i ≠ g
  apart : ∀ i j, i < n → j < n → i ≠ j → r i ≠ r j
section
variable {w w' w0 : World} {E B : TypeId} {base g n : Nat} {r : Nat → Nat} {f : Nat → Nat → Bool}
theorem TabAt.same (h : TabAt w E B base g n r f) (e : w0.heap = w.heap) : TabAt w0 E B base g n r f :=
  ⟨by have := h.top; unfold At at this ⊢; rw [e]; exact this, h.low, fun i hi => by have := h.row i hi; unfold At at this ⊢; rw [e]; exact this, h.rlow, h.apart⟩
theorem TabAt.next (h : TabAt w E B base g n r f) (hb : Below w.heap.size w w') : TabAt w' E B base g n r f :=
  ⟨h.top.below hb h.top.lt, h.low, fun i hi => (h.row i hi).below hb (h.row i hi).lt, h.rlow, h.apart⟩
theorem TabAt.step (h : TabAt w E B base g n r f) (hb : Below w0.heap.size w0 w') (e : w0.heap = w.heap) : TabAt w' E B base g n r f := (h.same e).next hb
theorem TabAt.drew (h : TabAt w E B base g n r f) : TabAt w.drew E B base g n r f := h.same (heap_drew w)
theorem TabAt.lower {base' : Nat} (h : TabAt w E B base g n r f) (hb : base' ≤ base) : TabAt w E B base' g n r f :=
  ⟨h.top, Nat.le_trans hb h.low, h.row, fun i hi => ⟨Nat.le_trans hb (h.rlow i hi).1, (h.rlow i hi).2⟩, h.apart⟩
theorem TabAt.congr {f' : Nat → Nat → Bool} (h : TabAt w E B base g n r f) (e : ∀ i j, i < n → j < n → f i j = f' i j) : TabAt w E B base g n r f' :=
  ⟨h.top, h.low, fun i hi => by rw [← boolRow_congr (e i · hi)]; exact h.row i hi, h.rlow, h.apart⟩
theorem TabAt.cellTop (h : TabAt w E B base g n r f) {i : Nat} (hi : i < n) : w.cell? ⟨g, i, none⟩ = some (.slice (some ⟨r i, 0, none⟩) n n) := (h.top.cell i).trans (arr_get _ _ i hi)
theorem TabAt.cellRow (h : TabAt w E B base g n r f) {i j : Nat} (hi : i < n) (hj : j < n) : w.cell? ⟨r i, j, none⟩ = some (.bool (f i j)) := ((h.row i hi).cell j).trans (arr_get _ _ j hj)
theorem TabAt.freeRow (h : TabAt w E B base g n r f) {i : Nat} (hi : i < n) (j : Nat) : w.frozen? ⟨r i, j, none⟩ = false := (h.row i hi).free j
/-- One truth is written. -/
theorem TabAt.put (h : TabAt w E B base g n r f) {i : Nat} (j : Nat) (hi : i < n) (b : Bool) : TabAt (w.setCell ⟨r i, j, none⟩ (.bool b)) E B base g n r (fun i' j' => if i' = i ∧ j' = j then b else f i' j') :=
  ⟨h.top.other (fun e => (h.rlow i hi).2 e.symm) _, h.low, fun i' hi' => by
    by_cases e : i' = i
    · subst e
      have h1 := (h.row i' hi).set j (.bool b)
      rw [boolRow_set] at h1
      have h2 : boolRow (fun j' => if i' = i' ∧ j' = j then b else f i' j') n = boolRow (fun j' => if j' = j then b else f i' j') n := boolRow_congr (fun j' _ => by simp)
      rw [h2]; exact h1
    · have h1 := (h.row i' hi').other (p := ⟨r i, j, none⟩) (h.apart i' i hi' hi e) (.bool b)
      have h2 : boolRow (fun j' => if i' = i ∧ j' = j then b else f i' j') n = boolRow (f i') n := boolRow_congr (fun j' _ => by simp [e])
      rw [h2]; exact h1, h.rlow, h.apart⟩
/-- A write into another block. -/
theorem TabAt.far (h : TabAt w E B base g n r f) {p : Addr} (hp : p.block < base) (v : Value) : TabAt (w.setCell p v) E B base g n r f :=
  ⟨h.top.other (by have := h.low; omega) v, h.low, fun i hi => (h.row i hi).other (by have := (h.rlow i hi).1; omega) v, h.rlow, h.apart⟩
/-- A table that lies ahead of where a call began. -/
def TabIn (w : World) (E B : TypeId) (g n : Nat) (f : Nat → Nat → Bool) : Prop := ∃ r, TabAt w E B 0 g n r f
theorem TabIn.next (h : TabIn w E B g n f) (hb : Below w.heap.size w w') : TabIn w' E B g n f := by obtain ⟨r, h⟩ := h; exact ⟨r, h.next hb⟩
end
/-- A table that is filled row by row: where (i, j) is reached. -/
def fillTo (F : Nat → Nat → Bool) (i j : Nat) (i' j' : Nat) : Bool := if i' < i ∨ (i' = i ∧ j' < j) then F i' j' else false
section
variable {w : World} {E B : TypeId} {base g n : Nat} {r : Nat → Nat} {F : Nat → Nat → Bool} {i j : Nat}
theorem TabAt.fillStart (h : TabAt w E B base g n r (fun _ _ => false)) : TabAt w E B base g n r (fillTo F 0 0) := h.congr (fun i j _ _ => by simp [fillTo])
theorem TabAt.fillStep (h : TabAt w E B base g n r (fillTo F i j)) (hi : i < n) {v : Bool} (hv : v = F i j) : TabAt (w.setCell ⟨r i, j, none⟩ (.bool v)) E B base g n r (fillTo F i (j + 1)) :=
  (h.put j hi v).congr (fun i' j' _ _ => by
    unfold fillTo
    by_cases e : i' = i ∧ j' = j
    · obtain ⟨rfl, rfl⟩ := e
      simp [hv]
    · rw [if_neg e]
      by_cases c : i' < i ∨ (i' = i ∧ j' < j)
      · rw [if_pos c, if_pos (by omega)]
      · rw [if_neg c, if_neg (by omega)])
theorem TabAt.fillSkip (h : TabAt w E B base g n r (fillTo F i 0)) (hF : ∀ j', j' < j → F i j' = false) : TabAt w E B base g n r (fillTo F i j) := h.congr (fun i' j' _ _ => by
  unfold fillTo
  by_cases c : i' < i
  · rw [if_pos (by omega), if_pos (by omega)]
  · rw [if_neg (by omega)]
    by_cases c2 : i' = i ∧ j' < j
    · obtain ⟨rfl, h2⟩ := c2
      rw [if_pos (by omega), hF j' h2]
    · rw [if_neg (by omega)])
theorem TabAt.fillRow (h : TabAt w E B base g n r (fillTo F i n)) : TabAt w E B base g n r (fillTo F (i + 1) 0) := h.congr (fun i' j' _ hj => by
  unfold fillTo
  by_cases c : i' < i ∨ (i' = i ∧ j' < n)
  · rw [if_pos c, if_pos (by omega)]
  · rw [if_neg c, if_neg (by omega)])
theorem TabAt.fillEnd (h : TabAt w E B base g n r (fillTo F n 0)) : TabAt w E B base g n r F := h.congr (fun i' j' hi _ => by
  unfold fillTo; rw [if_pos (by omega)])
end

end Go.Proofs.Ytoicbahkoejhjaa
