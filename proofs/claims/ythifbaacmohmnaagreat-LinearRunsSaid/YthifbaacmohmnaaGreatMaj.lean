/- Joined: Vals, FmMake, FmAtoms, FmOp. -/
import Derived.Test.YthifbaacmohmnaaGreatMah
import Derived.Laws.OwnMore
import Derived.Deep.AppendLies
import Derived.Deep.OwnRows
import Derived.Deep.RegionHeld3
import Derived.Maps.AppendAt
import Derived.Test.YthifbaacmohmnaaGreatMai
/- Values of one cell each in a row: as they are read, and in a row of the call's own; appended in regions that draw their order. Of no type in particular. -/
namespace Go.Proofs.YthifbaacmohmnaaGreat
open Go.RowKit
set_option linter.unusedVariables false
set_option linter.unusedSimpArgs false

def ValsAt (w : World) (v : Value) (xs : List Value) : Prop :=
  ∃ A c, v = .slice A xs.length c ∧ (A = none → c = 0) ∧ (xs.length ≤ c ∧ c ≤ 9223372036854775807) ∧ (0 < xs.length → ∃ b off, A = some ⟨b, off, none⟩ ∧ b < w.heap.size ∧ ∀ j (h : j < xs.length), w.cell? ⟨b, off + j, none⟩ = some xs[j])
def VRow (w : World) (base : Nat) (E : TypeId) (v : Value) (xs : List Value) : Prop := w.ownsRow base E 1 v xs.length xs
section
variable {w w' : World} {base : Nat} {E : TypeId} {v : Value} {xs ys : List Value}
theorem ValsAt.next (h : ValsAt w v xs) (hb : Below w.heap.size w w') : ValsAt w' v xs := by
  obtain ⟨A, c, h1, h2, hc, h3⟩ := h
  refine ⟨A, c, h1, h2, hc, fun h0 => ?_⟩
  obtain ⟨b, off, e, hlt, hr⟩ := h3 h0
  exact ⟨b, off, e, Nat.lt_of_lt_of_le hlt hb.size, fun j hj => ((bcell hb).1 b _ hlt).trans (hr j hj)⟩
theorem ValsAt.drew (h : ValsAt w v xs) : ValsAt w.drew v xs := h
theorem ValsAt.nil (w : World) : ValsAt w (.slice none 0 0) [] := ⟨none, 0, rfl, fun _ => rfl, ⟨Nat.le_refl 0, by omega⟩, fun h => absurd h (Nat.lt_irrefl 0)⟩
theorem ValsAt.zero (w : World) (A : Option Addr) (c : Nat) (hA : A = none → c = 0) (hc : c ≤ 9223372036854775807) : ValsAt w (.slice A 0 c) [] := ⟨A, c, rfl, hA, ⟨Nat.zero_le _, hc⟩, fun h => absurd h (Nat.lt_irrefl 0)⟩
theorem ValsAt.len {A : Option Addr} {n c : Nat} (h : ValsAt w (.slice A n c) xs) : n = xs.length := by obtain ⟨A', c', h1, _⟩ := h; injection h1
theorem ValsAt.take {A : Option Addr} {n c : Nat} (h : ValsAt w (.slice A n c) xs) (k : Nat) (hk : k ≤ xs.length) : ValsAt w (.slice A k c) (xs.take k) := by
  obtain ⟨A', c', e, h2, hc, h3⟩ := h
  injection e with e1 _ e3
  subst e1 e3
  refine ⟨A, c, by rw [List.length_take, Nat.min_eq_left hk], h2, by rw [List.length_take, Nat.min_eq_left hk]; omega, fun h0 => ?_⟩
  rw [List.length_take, Nat.min_eq_left hk] at h0
  obtain ⟨b, off, e, hlt, hr⟩ := h3 (by omega)
  refine ⟨b, off, e, hlt, fun j hj => ?_⟩
  rw [List.length_take, Nat.min_eq_left hk] at hj
  rw [List.getElem_take]
  exact hr j (by omega)
theorem ValsAt.drop {A : Option Addr} {n c b off : Nat} (h : ValsAt w (.slice A n c) xs) (hA : A = some ⟨b, off, none⟩) (k d : Nat) (hk : k ≤ xs.length) (hd : d = c - k) : ValsAt w (.slice (some ⟨b, off + k, none⟩) (xs.length - k) d) (xs.drop k) := by
  obtain ⟨A', c', e, h2, hc, h3⟩ := h
  injection e with e1 _ e3
  subst e1 e3
  have hc' : xs.length - k ≤ d ∧ d ≤ 9223372036854775807 := ⟨by rw [hd]; exact Nat.sub_le_sub_right hc.1 k, by rw [hd]; exact Nat.le_trans (Nat.sub_le _ _) hc.2⟩
  refine ⟨some ⟨b, off + k, none⟩, d, by rw [List.length_drop], (fun q => by cases q), by rw [List.length_drop]; exact hc', fun h0 => ?_⟩
  rw [List.length_drop] at h0
  obtain ⟨b', off', e, hlt, hr⟩ := h3 (by omega)
  rw [hA] at e
  injection e with e
  injection e with e4 e5 _
  subst e4 e5
  refine ⟨b, off + k, rfl, hlt, fun j hj => ?_⟩
  rw [List.length_drop] at hj
  rw [List.getElem_drop, Nat.add_assoc]
  exact hr (k + j) (by omega)
theorem VRow.low (h : VRow w base E v xs) : ∀ g, v.ownBlock = some g → base ≤ g := fun g hg => (World.ownsRow.lt h g hg).1
theorem VRow.next (h : VRow w base E v xs) (hb : Below w.heap.size w w') : VRow w' base E v xs :=
  World.ownsRow.kept (row := none) h ⟨hb.os, hb.tape, hb.output, hb.size, fun i hi _ => hb.block i hi⟩ (by cases hv : v.ownBlock <;> simp)
theorem VRow.empty {g : Nat} (h4 : At w g E #[]) (hb : base ≤ g) : VRow w base E (.slice (some ⟨g, 0, none⟩) 0 0) [] := ⟨rfl, .inr ⟨g, 0, #[], rfl, hb, h4, Nat.le_refl _, Nat.zero_le _, rfl, rfl⟩⟩
theorem VRow.start (w : World) (base : Nat) (E : TypeId) : VRow w base E (.slice none 0 0) [] := World.ownsRow_nil w base _ 1
theorem ValsAt.cap {A : Option Addr} {n c : Nat} (h : ValsAt w (.slice A n c) xs) : xs.length ≤ c ∧ c ≤ 9223372036854775807 := by obtain ⟨A', c', h1, _, h2, _⟩ := h; injection h1 with _ _ h3; subst h3; exact h2
end
theorem at_keep {w w' : World} {g : Nat} {t : TypeId} {cs : Array Value} {row : Option Nat} (h : At w g t cs) (hg : w.grownBy w' row) (hr : row ≠ some g) : At w' g t cs := (hg.block g h.lt (fun e => hr e.symm)).trans h
theorem below_gr {W w w' : World} {B : Nat} {row : Option Nat} (h : Below B W w) (hs : B ≤ w.heap.size) (hg : w.grownBy w' row) (hr : ∀ k, row = some k → B ≤ k) : Below B W w' :=
  ⟨hg.os.trans h.os, hg.tape.trans h.tape, hg.output.trans h.output, Nat.le_trans h.size hg.size, fun i hi => (hg.block i (by omega) (fun e => by have := hr i e.symm; omega)).trans (h.block i hi)⟩
section
variable {ops : Array Oper} {o : Oper} {a : Act} {w : World} {K : Act → World → Prop} {Q : Exit → Act → World → Prop} {X : Prop}
end
end Go.Proofs.YthifbaacmohmnaaGreat

/- bolterref09.Make: the formed formula of a table of ways. -/
namespace Go.Proofs.YthifbaacmohmnaaGreat
open Go.RowKit
set_option linter.unusedVariables false
set_option linter.unusedSimpArgs false

/-- The values us stand for the parts f. -/
def FmVals (w : World) (us : List Value) (f : Fm) : Prop := us.length = f.length ∧ (∀ u ∈ us, u.oneCell' = true) ∧ ∀ j (h : j < us.length), IntsAt w us[j] (paAt f j)
theorem FmVals.next {w w' : World} {us : List Value} {f : Fm} (h : FmVals w us f) (hb : Below w.heap.size w w') : FmVals w' us f := ⟨h.1, h.2.1, fun j hj => (h.2.2 j hj).next hb⟩
theorem FmVals.drewN {w : World} {us : List Value} {f : Fm} (h : FmVals w us f) (q : Nat) : FmVals (w.drewN q) us f := h
/-- The ways of a table: bools in a row. -/
def WaysAt (w : World) (g N : Nat) (hf : Nat → Bool) : Prop := g < w.heap.size ∧ ∀ j, j < N → w.cell? ⟨g, j, none⟩ = some (.bool (hf j))
theorem WaysAt.next {w w' : World} {g N : Nat} {hf : Nat → Bool} (h : WaysAt w g N hf) (hb : Below w.heap.size w w') : WaysAt w' g N hf := ⟨Nat.lt_of_lt_of_le h.1 hb.size, fun j hj => ((bcell hb).1 g _ h.1).trans (h.2 j hj)⟩

end Go.Proofs.YthifbaacmohmnaaGreat

/- bolterref09.Atoms: all numbers of formulas, rising. -/
namespace Go.Proofs.YthifbaacmohmnaaGreat
open Go.RowKit
set_option linter.unusedVariables false
set_option linter.unusedSimpArgs false

/-- Formulas in a row. -/
def fsAt (fs : List Fm) (j : Nat) : Fm := (fs[j]?).getD []
def FsAt (w : World) (v : Value) (fs : List Fm) : Prop :=
  ∃ A c, v = .slice A fs.length c ∧ fs.length ≤ c ∧ c ≤ 9223372036854775807 ∧ (0 < fs.length → ∃ b off, A = some ⟨b, off, none⟩ ∧ b < w.heap.size ∧ ∀ j, j < fs.length → ∃ u, w.cell? ⟨b, off + j, none⟩ = some u ∧ FmAt w u (fsAt fs j))
theorem FsAt.next {w w' : World} {v : Value} {f : List Fm} (h : FsAt w v f) (hb : Below w.heap.size w w') : FsAt w' v f := by
  obtain ⟨A, c, h1, h2, h3, h5⟩ := h
  refine ⟨A, c, h1, h2, h3, fun h0 => ?_⟩
  obtain ⟨b, off, e, hlt, hr⟩ := h5 h0
  refine ⟨b, off, e, Nat.lt_of_lt_of_le hlt hb.size, fun j hj => ?_⟩
  obtain ⟨u, hu, hi⟩ := hr j hj
  exact ⟨u, ((bcell hb).1 b _ hlt).trans hu, hi.next hb⟩
theorem FsAt.at {w : World} {f : List Fm} {A : Option Addr} {n c : Nat} (h : FsAt w (.slice A n c) f) (j : Nat) (hj : j < f.length) : ∃ b off A2 c2, A = some ⟨b, off, none⟩ ∧ b < w.heap.size ∧ w.cell? ⟨b, off + j, none⟩ = some (.slice A2 (fsAt f j).length c2) ∧ FmAt w (.slice A2 (fsAt f j).length c2) (fsAt f j) := by
  obtain ⟨A', c', h1, _, _, h5⟩ := h
  injection h1 with e1 _ _
  subst e1
  obtain ⟨b, off, e, hlt, hr⟩ := h5 (by omega)
  obtain ⟨u, hu, hi⟩ := hr j hj
  obtain ⟨A2, c2, rfl, r⟩ := id hi
  exact ⟨b, off, A2, c2, e, hlt, hu, hi⟩
theorem FsAt.len {w : World} {f : List Fm} {A : Option Addr} {n c : Nat} (h : FsAt w (.slice A n c) f) : n = f.length := by obtain ⟨A', c', h1, _⟩ := h; injection h1
theorem FsAt.max {w : World} {f : List Fm} {A : Option Addr} {n c : Nat} (h : FsAt w (.slice A n c) f) : f.length ≤ 9223372036854775807 := by obtain ⟨A', c', h1, h2, h3, _⟩ := h; omega
theorem vals_ints {w : World} {v : Value} {z : List Int} (h : ValsAt w v (z.map (Value.int .i64))) (hz : ∀ x ∈ z, IsI x) : IntsAt w v z := by
  obtain ⟨A, c, rfl, _, h3, h4⟩ := h
  rw [List.length_map] at h3
  refine ⟨A, c, by rw [List.length_map], h3.1, h3.2, hz, fun h0 => ?_⟩
  obtain ⟨b, off, e, hlt, hr⟩ := h4 (by rw [List.length_map]; exact h0)
  exact ⟨b, off, e, hlt, fun j hj => by rw [hr j (by rw [List.length_map]; exact hj), List.getElem_map, inAt_lt hj]⟩

/-- Numbers that rise, in a row that is never written again. -/
def ZAt (w : World) (u : Value) (z : List Int) : Prop := ValsAt w u (z.map (Value.int .i64)) ∧ (∀ x ∈ z, IsI x) ∧ (z = [] → u = .slice none 0 0)
theorem ZAt.nil (w : World) : ZAt w (.slice none 0 0) [] := ⟨ValsAt.nil _, (fun x hx => by cases hx), fun _ => rfl⟩
theorem ZAt.next {w w' : World} {u : Value} {z : List Int} (h : ZAt w u z) (hb : Below w.heap.size w w') : ZAt w' u z := ⟨h.1.next hb, h.2⟩
theorem ZAt.ints {w : World} {u : Value} {z : List Int} (h : ZAt w u z) : IntsAt w u z := vals_ints h.1 h.2.1
end Go.Proofs.YthifbaacmohmnaaGreat

/- bolterref09.Op: or, and, dual. -/
namespace Go.Proofs.YthifbaacmohmnaaGreat
open Go.RowKit
set_option linter.unusedVariables false
set_option linter.unusedSimpArgs false

end Go.Proofs.YthifbaacmohmnaaGreat
