/- bolterref09.Op: or, and, dual. -/
import Derived.Test.YtehokjaojanieaaDoorFmAtoms
import Derived.Deep.OwnRows
namespace Go.Proofs.YtehokjaojanieaaDoor
open Go.RowKit
set_option linter.unusedVariables false
set_option linter.unusedSimpArgs false

def opHf (op : Nat) (f g : Fm) (l : List Int) (N : Nat) (b : Nat) : Bool :=
  if op = 0 then holdsS f (chosenS l b) || holdsS g (chosenS l b) else if op = 1 then holdsS f (chosenS l b) && holdsS g (chosenS l b) else !holdsS f (chosenS l (N - 1 - b))
def opAtoms (op : Nat) (f g : Fm) : List Int := if op = 2 then atomsS [f] else atomsS [f, g]
/-- What the reference answers. -/
def opS (op : Nat) (f g : Fm) : Fm := makeTo (opAtoms op f g) (opHf op f g (opAtoms op f g) (2 ^ (opAtoms op f g).length)) (2 ^ (opAtoms op f g).length)
theorem fs_one {w : World} {u : Value} {f : Fm} {T : TypeId} (h : FmAt w u f) : FsAt (w.alloc (.cells #[u] T)) (.slice (some ⟨w.heap.size, 0, none⟩) 1 1) [f] := by
  refine ⟨_, _, rfl, Nat.le_refl _, by omega, fun _ => ⟨w.heap.size, 0, rfl, by simp, fun j hj => ?_⟩⟩
  obtain rfl : j = 0 := by simpa using hj
  refine ⟨u, ?_, h.next ((Below.refl _ _).alloc (Nat.le_refl _) _)⟩
  have := (At.new w T #[u]).cell 0
  simp
theorem fs_two {w : World} {u v : Value} {f g : Fm} {T : TypeId} (h : FmAt w u f) (h' : FmAt w v g) : FsAt (w.alloc (.cells #[u, v] T)) (.slice (some ⟨w.heap.size, 0, none⟩) 2 2) [f, g] := by
  refine ⟨_, _, rfl, Nat.le_refl _, by omega, fun _ => ⟨w.heap.size, 0, rfl, by simp, fun j hj => ?_⟩⟩
  have hb : Below w.heap.size w (w.alloc (.cells #[u, v] T)) := (Below.refl _ _).alloc (Nat.le_refl _) _
  have hj2 : j < 2 := hj
  match j, hj2 with
  | 0, _ => exact ⟨u, by have := (At.new w T #[u, v]).cell 0; simp, h.next hb⟩
  | 1, _ => exact ⟨v, by have := (At.new w T #[u, v]).cell 1; simp, h'.next hb⟩
/-- Bools, as far as they are filled. -/
def brow (N : Nat) (h : Nat → Bool) (i : Nat) : Array Value := arr N (fun k => .bool (if k < i then h k else false))
theorem brow_zero (N : Nat) (h : Nat → Bool) : brow N h 0 = madeCells #[.bool false] N := by
  unfold brow arr madeCells
  apply Array.ext_getElem?
  intro i
  by_cases hi : i < N
  · simp [hi, Nat.mod_one]
  · simp [hi]
theorem brow_set (N : Nat) (h : Nat → Bool) (i : Nat) (v : Bool) (hv : h i = v) : (brow N h i).setIfInBounds i (.bool v) = brow N h (i + 1) := by
  unfold brow
  rw [arr_set]
  apply arr_congr
  intro k hk
  by_cases e : k = i
  · subst e
    rw [if_pos rfl, if_pos (by omega), hv]
  · rw [if_neg e]
    by_cases c : k < i
    · rw [if_pos c, if_pos (by omega)]
    · rw [if_neg c, if_neg (by omega)]
theorem info_boolO : (Tryd.prog.info? 4).map (fun i => (i.zero, i.size, i.bytes)) = some (some (.bool false), 1, 1) := by kernel_rfl
theorem make_congr (l : List Int) {h h' : Nat → Bool} : ∀ {N : Nat}, (∀ b, h b = h' b) → makeTo l h N = makeTo l h' N := fun e => by rw [funext e]

end Go.Proofs.YtehokjaojanieaaDoor
