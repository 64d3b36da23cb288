/- Joined: Ins, Mass. -/
import Derived.Test.YtjkcbojlopdonaaProg
import Derived.Test.YtjkcbojlopdonaaTreeKit
import Derived.Test.YtjkcbojlopdonaaTr
/- Trees as they lie, whose lists may be held against each other. No program is walked here. -/
namespace Go.Proofs.Ytjkcbojlopdonaa
open Go.RowKit
set_option linter.unusedSimpArgs false
set_option linter.unusedVariables false

/- Trees. -/
theorem Tr.In.more {w : World} {t : Tr} {k : Nat} (h : Tr.In w k t) : ∀ d, Tr.In w (k + d) t
  | 0 => h
  | d + 1 => Tr.In.up _ _ (Tr.In.more h d)
theorem Tr.In.upto {w : World} {t : Tr} {k k' : Nat} (h : Tr.In w k t) (hk : k ≤ k') : Tr.In w k' t := by
  have := h.more (k' - k)
  rwa [show k + (k' - k) = k' by omega] at this
/-- No block of a tree lies from lo on and below hi. -/
def Tr.Out (lo hi : Nat) : Nat → Tr → Prop
  | 0, _ => True
  | k + 1, t => (0 < t.n → ∀ b off, t.addr = some ⟨b, off, none⟩ → b < lo ∨ hi ≤ b) ∧ ∀ p ∈ t.parts, Tr.Out lo hi k p
theorem Tr.Out.lower {lo hi hi' : Nat} (hh : hi' ≤ hi) : ∀ (k : Nat) (t : Tr), Tr.Out lo hi k t → Tr.Out lo hi' k t
  | 0, _, _ => trivial
  | k + 1, t, h => ⟨fun h0 b off e => (h.1 h0 b off e).imp id (fun q => Nat.le_trans hh q), fun p hp => Tr.Out.lower hh k p (h.2 p hp)⟩
theorem Tr.Out.off {lo hi b : Nat} (h1 : lo ≤ b) (h2 : b < hi) : ∀ (k : Nat) (t : Tr), Tr.Out lo hi k t → Tr.Off b k t
  | 0, _, _ => trivial
  | k + 1, t, h => ⟨fun h0 b' off e => by have := h.1 h0 b' off e; omega, fun p hp => Tr.Out.off h1 h2 k p (h.2 p hp)⟩
theorem Tr.Out.up {w : World} {lo hi : Nat} : ∀ (k : Nat) (t : Tr), Tr.In w k t → Tr.Out lo hi k t → Tr.Out lo hi (k + 1) t
  | 0, _, h, _ => h.elim
  | k + 1, t, h, o => ⟨o.1, fun p hp => by
      obtain ⟨j, hj, rfl⟩ := List.getElem_of_mem hp
      exact Tr.Out.up k _ (h.2.2.2 j hj) (o.2 _ hp)⟩
theorem Tr.Out.le {w : World} {lo hi k k' : Nat} {t : Tr} (h : Tr.In w k t) (o : Tr.Out lo hi k t) (hk : k ≤ k') : Tr.Out lo hi k' t := by
  obtain ⟨d, rfl⟩ : ∃ d, k' = k + d := ⟨k' - k, by omega⟩
  clear hk
  induction d with
  | zero => exact o
  | succ d ih => exact Tr.Out.up (k + d) t (h.more d) ih
theorem Tr.Off.up {w : World} {g : Nat} : ∀ (k : Nat) (t : Tr), Tr.In w k t → Tr.Off g k t → Tr.Off g (k + 1) t
  | 0, _, h, _ => h.elim
  | k + 1, t, h, o => ⟨o.1, fun p hp => by
      obtain ⟨j, hj, rfl⟩ := List.getElem_of_mem hp
      exact Tr.Off.up k _ (h.2.2.2 j hj) (o.2 _ hp)⟩
theorem Tr.Off.le {w : World} {g k k' : Nat} {t : Tr} (h : Tr.In w k t) (o : Tr.Off g k t) (hk : k ≤ k') : Tr.Off g k' t := by
  obtain ⟨d, rfl⟩ : ∃ d, k' = k + d := ⟨k' - k, by omega⟩
  clear hk
  induction d with
  | zero => exact o
  | succ d ih => exact Tr.Off.up (k + d) t (h.more d) ih
theorem Tr.In.out' {w : World} {lo : Nat} (hl : w.heap.size ≤ lo) (hi : Nat) : ∀ (k : Nat) (t : Tr), Tr.In w k t → Tr.Out lo hi k t
  | 0, _, _ => trivial
  | k + 1, t, h => ⟨fun h0 b off e => by
      obtain ⟨b', off', e', hlt, _⟩ := h.2.2.1 h0
      rw [e] at e'
      injection e' with e'
      injection e' with e1
      omega, fun p hp => by
      obtain ⟨j, hj, rfl⟩ := List.getElem_of_mem hp
      exact Tr.In.out' hl hi k _ (h.2.2.2 j hj)⟩
/-- The first place of each list may be held against another's. -/
def Tr.Sol (w : World) : Nat → Tr → Prop
  | 0, _ => True
  | k + 1, t => (0 < t.n → ∀ b off, t.addr = some ⟨b, off, none⟩ → w.frozen? ⟨b, off, none⟩ = false) ∧ ∀ p ∈ t.parts, Tr.Sol w k p
theorem Tr.Sol.grown {w w' : World} {row : Option Nat} (hg : w.grownBy w' row) : ∀ (k : Nat) (t : Tr), (∀ g, row = some g → Tr.Off g k t) → Tr.In w k t → Tr.Sol w k t → Tr.Sol w' k t
  | 0, _, _, _, _ => trivial
  | k + 1, t, hf, h, hs => ⟨fun h0 b off e => by
      obtain ⟨b', off', e', hlt, _⟩ := h.2.2.1 h0
      rw [e] at e'
      injection e' with e'
      injection e' with e1 e2
      subst e1; subst e2
      rw [World.frozen?_of_block (w := w) (hg.block b hlt (fun q => (hf b q.symm).1 h0 b off e rfl))]
      exact hs.1 h0 b off e, fun p hp => by
      obtain ⟨j, hj, rfl⟩ := List.getElem_of_mem hp
      exact Tr.Sol.grown hg k _ (fun g e => (hf g e).2 _ hp) (h.2.2.2 j hj) (hs.2 _ hp)⟩
theorem Tr.Sol.up {w : World} : ∀ (k : Nat) (t : Tr), Tr.In w k t → Tr.Sol w k t → Tr.Sol w (k + 1) t
  | 0, _, h, _ => h.elim
  | k + 1, t, h, o => ⟨o.1, fun p hp => by
      obtain ⟨j, hj, rfl⟩ := List.getElem_of_mem hp
      exact Tr.Sol.up k _ (h.2.2.2 j hj) (o.2 _ hp)⟩
/-- A tree lies in memory, and its lists may be held against each other. -/
def Tr.Ins (w : World) (k : Nat) (t : Tr) : Prop := Tr.In w k t ∧ Tr.Sol w k t
theorem Tr.Ins.grown {w w' : World} {row : Option Nat} (hg : w.grownBy w' row) (k : Nat) (t : Tr) (hf : ∀ g, row = some g → Tr.Off g k t) (h : Tr.Ins w k t) : Tr.Ins w' k t := ⟨Tr.In.grown hg k t hf h.1, Tr.Sol.grown hg k t hf h.1 h.2⟩
theorem Tr.Ins.next {w w' : World} {k : Nat} {t : Tr} (h : Tr.Ins w k t) (hb : Below w.heap.size w w') : Tr.Ins w' k t := Tr.Ins.grown (row := none) ⟨hb.os, hb.tape, hb.output, hb.size, fun i hi _ => hb.block i hi⟩ k t (fun g e => by cases e) h
theorem Tr.Ins.below {w w' : World} {B k : Nat} {t : Tr} (h : Tr.Ins w k t) (hB : w.heap.size ≤ B) (hb : Below B w w') : Tr.Ins w' k t := h.next (hb.mono hB)
theorem Tr.Ins.up {w : World} {k : Nat} {t : Tr} (h : Tr.Ins w k t) : Tr.Ins w (k + 1) t := ⟨Tr.In.up _ _ h.1, Tr.Sol.up _ _ h.1 h.2⟩
theorem Tr.Ins.upto {w : World} {t : Tr} {k k' : Nat} (h : Tr.Ins w k t) (hk : k ≤ k') : Tr.Ins w k' t := by
  obtain ⟨d, rfl⟩ : ∃ d, k' = k + d := ⟨k' - k, by omega⟩
  clear hk
  induction d with
  | zero => exact h
  | succ d ih => exact ih.up
/-- A tree lies in memory, its blocks out of [lo, hi); without its addresses it is T. -/
def Tr.Is (w : World) (lo hi : Nat) (t T : Tr) : Prop := ∃ k, Tr.Ins w k t ∧ Tr.Out lo hi k t ∧ ∀ k', k ≤ k' → t.strip k' = T
theorem Tr.Is.lower {w : World} {lo hi hi' : Nat} {t T : Tr} (h : Tr.Is w lo hi t T) (hh : hi' ≤ hi) : Tr.Is w lo hi' t T := by
  obtain ⟨k, h1, h2, h3⟩ := h
  exact ⟨k, h1, h2.lower hh, h3⟩
theorem Tr.Is.grown {w w' : World} {lo hi g : Nat} {t T : Tr} (h : Tr.Is w lo hi t T) (hg : w.grownBy w' (some g)) (h1 : lo ≤ g) (h2 : g < hi) : Tr.Is w' lo hi t T := by
  obtain ⟨k, i1, i2, i3⟩ := h
  exact ⟨k, Tr.Ins.grown hg k t (fun b e => by cases e; exact i2.off h1 h2) i1, i2, i3⟩
theorem Tr.Is.next {w w' : World} {lo hi : Nat} {t T : Tr} (h : Tr.Is w lo hi t T) (hb : Below w.heap.size w w') : Tr.Is w' lo hi t T := by
  obtain ⟨k, i1, i2, i3⟩ := h
  exact ⟨k, i1.next hb, i2, i3⟩
theorem Tr.Is.same {w w' : World} {lo hi : Nat} {t T : Tr} (h : Tr.Is w lo hi t T) (e : w'.heap = w.heap) (e1 : w'.os = w.os) (e2 : w'.tape = w.tape) (e3 : w'.output = w.output) : Tr.Is w' lo hi t T := by
  obtain ⟨k, i1, i2, i3⟩ := h
  exact ⟨k, Tr.Ins.next (w' := w') i1 ⟨e1, e2, e3, by rw [e]; exact Nat.le_refl _, fun q _ => by rw [e]⟩, i2, i3⟩
theorem Tr.Is.kept {w w' : World} {lo hi g : Nat} {t T : Tr} (h : Tr.Is w lo hi t T) (hg : w.grownBy w' (some g)) (hs : w.heap.size ≤ g) : Tr.Is w' lo hi t T := by
  obtain ⟨k, i1, i2, i3⟩ := h
  exact ⟨k, Tr.Ins.grown hg k t (fun b e => by cases e; exact Tr.Off.new hs k t i1.1) i1, i2, i3⟩
theorem Tr.Off.down {g : Nat} : ∀ (k : Nat) (t : Tr), Tr.Off g (k + 1) t → Tr.Off g k t
  | 0, _, _ => trivial
  | k + 1, t, h => ⟨h.1, fun p hp => Tr.Off.down k p (h.2 p hp)⟩
theorem Tr.Off.any {w : World} {g k k' : Nat} {t : Tr} (h : Tr.In w k t) (o : Tr.Off g k t) : Tr.Off g k' t := by
  rcases Nat.le_total k k' with q | q
  · exact Tr.Off.le h o q
  · obtain ⟨d, rfl⟩ : ∃ d, k = k' + d := ⟨k - k', by omega⟩
    clear q h
    induction d with
    | zero => exact o
    | succ d ih => exact ih (Tr.Off.down (k' + d) t o)
/-- What is new is out of the tree. -/
theorem Tr.Is.new {w : World} {lo hi : Nat} {t T : Tr} (h : Tr.Is w lo hi t T) (lo2 hi2 : Nat) (hl : w.heap.size ≤ lo2) : Tr.Is w lo2 hi2 t T := by
  obtain ⟨k, i1, i2, i3⟩ := h
  refine ⟨k, i1, ?_, i3⟩
  have := Tr.In.out' hl hi2 k t i1.1
  exact this

theorem ownsRow_grown {w w' : World} {base : Nat} {e : TypeId} {size : Nat} {v : Value} {n : Nat} {xs : List Value} {g : Nat} (h : w.ownsRow base e size v n xs) (hg : w.grownBy w' (some g)) (hb : g < base) : w'.ownsRow base e size v n xs := by
  obtain ⟨h1, h2⟩ := h
  refine ⟨h1, ?_⟩
  rcases h2 with h2 | ⟨b, cap, cur, hv, hbb, hh, r⟩
  · exact Or.inl h2
  · refine Or.inr ⟨b, cap, cur, hv, hbb, ?_, r⟩
    have hlt : b < w.heap.size := by
      rcases Nat.lt_or_ge b w.heap.size with q | q
      · exact q
      · rw [Array.getElem?_eq_none q] at hh; cases hh
    rw [hg.block b hlt (fun e => by cases e; omega)]; exact hh

theorem grownBy_lo {w w' : World} {g : Nat} (h : w.grownBy w' (some g)) (hg : g ≤ w.heap.size) : Below g w w' := ⟨h.os, h.tape, h.output, h.size, fun k hk => h.block k (by omega) (fun e => by cases e; omega)⟩

end Go.Proofs.Ytjkcbojlopdonaa

/- How many nodes a pattern has. No program is named here. -/
namespace Go.Proofs.Ytjkcbojlopdonaa
open Go.RowKit
set_option linter.unusedSimpArgs false
set_option linter.unusedVariables false

/-- How many nodes. -/
def massS : Nat → Tr → Nat
  | 0, _ => 1
  | k + 1, t => 1 + (t.parts.map (massS k)).sum
def lmS (k : Nat) (ms : List Tr) : Nat := (ms.map (massS k)).sum
theorem mass_pos (k : Nat) (t : Tr) : 1 ≤ massS k t := by cases k <;> simp [massS]
theorem lm_pos {k : Nat} {ms : List Tr} (h : 0 < ms.length) : 1 ≤ lmS k ms := by
  cases ms with
  | nil => exact absurd h (Nat.lt_irrefl 0)
  | cons t r => have := mass_pos k t; unfold lmS; rw [List.map_cons, List.sum_cons]; omega
theorem mass_parts (k : Nat) (t : Tr) : massS (k + 1) t = 1 + lmS k t.parts := rfl

end Go.Proofs.Ytjkcbojlopdonaa
