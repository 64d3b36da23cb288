/- bolterref09.Right: may a node be put behind so many? -/
import Derived.Test.YtcghclikkeajfaaNodeEq
import Derived.Test.YtcghclikkeajfaaMa
import Derived.StillTailTactics
import Derived.Deep.QuietTactic
import Derived.BigQuiet
namespace Go.Proofs.Ytcghclikkeajfaa
open Go.RowKit
set_option linter.unusedSimpArgs false
set_option linter.unusedVariables false

def aIn (a : Int) (n : Int) : Bool := decide (0 ≤ a) && decide (a < n)
def noSt : St := ⟨0, 0, 0, 0⟩
def Nd.bare (x : Nd) : Nd := ⟨x.kind, noSt, 0, 0, false⟩
def Nd.right (x : Nd) (n : Nat) : Bool :=
  if x.kind = 0 ∨ x.kind = 1 then x.eqb x.bare
  else if x.kind = 2 then x.eqb ⟨x.kind, x.set, 0, 0, false⟩
  else if x.kind = 3 ∨ x.kind = 4 ∨ x.kind = 5 then x.eqb ⟨x.kind, noSt, x.a, x.b, false⟩ && aIn x.a n && aIn x.b n
  else if x.kind = 6 ∨ x.kind = 7 then x.eqb ⟨x.kind, noSt, x.a, 0, false⟩ && aIn x.a n
  else if x.kind = 8 then x.eqb ⟨x.kind, noSt, x.a, 0, x.neg⟩ && aIn x.a 4
  else false
/-- A node's own variable, and behind it the one with its kind alone. -/
def twoN (w : World) (x z : Nd) : World := (w.alloc (.cells x.cs.toArray 56)).alloc (.cells z.cs.toArray 56)
theorem twoN_x (w : World) (x z : Nd) : At (twoN w x z) w.heap.size 56 x.cs.toArray := (At.new w 56 x.cs.toArray).alloc _
theorem twoN_z (w : World) (x z : Nd) : At (twoN w x z) (w.heap.size + 1) 56 z.cs.toArray := by
  have h := At.new (w.alloc (.cells x.cs.toArray 56)) 56 z.cs.toArray
  rw [show (w.alloc (.cells x.cs.toArray 56)).heap.size = w.heap.size + 1 by simp] at h
  exact h
theorem twoN_next (w : World) (x z : Nd) : Below w.heap.size w (twoN w x z) := ((Below.refl _ _).alloc (Nat.le_refl _) _).alloc (by simp) _

theorem ne_succ (m : Nat) : m ≠ m + 1 := by omega
theorem below_drewN' {B : Nat} {w w1 : World} (h : Below B w w1) (q : Nat) : Below B w (w1.drewN q) := ⟨h.os, h.tape, h.output, h.size, h.block⟩

end Go.Proofs.Ytcghclikkeajfaa
