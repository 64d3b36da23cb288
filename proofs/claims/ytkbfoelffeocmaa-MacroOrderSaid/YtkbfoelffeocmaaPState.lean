/- The parser's state and what reading does to it: package parse, its mathematics and its memory. -/
import Derived.Test.YtkbfoelffeocmaaProg
import Derived.Test.YtkbfoelffeocmaaTreeKit
import Derived.Test.YtkbfoelffeocmaaWordsAt
namespace Go.Proofs.Ytkbfoelffeocmaa
open Go.RowKit
set_option linter.unusedSimpArgs false
set_option linter.unusedVariables false

/- Trees. -/
theorem Tr.In.more {w : World} {t : Tr} {k : Nat} (h : Tr.In w k t) : ∀ d, Tr.In w (k + d) t
  | 0 => h
  | d + 1 => Tr.In.up _ _ (Tr.In.more h d)
theorem Tr.In.upto {w : World} {t : Tr} {k k' : Nat} (h : Tr.In w k t) (hk : k ≤ k') : Tr.In w k' t := by
  have := h.more (k' - k)
  rwa [show k + (k' - k) = k' by omega] at this
/-- No block of a tree lies from lo on and below hi. -/
def Tr.Out (lo hi : Nat) : Nat → Tr → Prop
  | 0, _ => True
  | k + 1, t => (0 < t.n → ∀ b off, t.addr = some ⟨b, off, none⟩ → b < lo ∨ hi ≤ b) ∧ ∀ p ∈ t.parts, Tr.Out lo hi k p
theorem Tr.Out.lower {lo hi hi' : Nat} (hh : hi' ≤ hi) : ∀ (k : Nat) (t : Tr), Tr.Out lo hi k t → Tr.Out lo hi' k t
  | 0, _, _ => trivial
  | k + 1, t, h => ⟨fun h0 b off e => (h.1 h0 b off e).imp id (fun q => Nat.le_trans hh q), fun p hp => Tr.Out.lower hh k p (h.2 p hp)⟩
theorem Tr.Out.off {lo hi b : Nat} (h1 : lo ≤ b) (h2 : b < hi) : ∀ (k : Nat) (t : Tr), Tr.Out lo hi k t → Tr.Off b k t
  | 0, _, _ => trivial
  | k + 1, t, h => ⟨fun h0 b' off e => by have := h.1 h0 b' off e; omega, fun p hp => Tr.Out.off h1 h2 k p (h.2 p hp)⟩
theorem Tr.Out.up {w : World} {lo hi : Nat} : ∀ (k : Nat) (t : Tr), Tr.In w k t → Tr.Out lo hi k t → Tr.Out lo hi (k + 1) t
  | 0, _, h, _ => h.elim
  | k + 1, t, h, o => ⟨o.1, fun p hp => by
      obtain ⟨j, hj, rfl⟩ := List.getElem_of_mem hp
      exact Tr.Out.up k _ (h.2.2.2 j hj) (o.2 _ hp)⟩
theorem Tr.Out.le {w : World} {lo hi k k' : Nat} {t : Tr} (h : Tr.In w k t) (o : Tr.Out lo hi k t) (hk : k ≤ k') : Tr.Out lo hi k' t := by
  obtain ⟨d, rfl⟩ : ∃ d, k' = k + d := ⟨k' - k, by omega⟩
  clear hk
  induction d with
  | zero => exact o
  | succ d ih => exact Tr.Out.up (k + d) t (h.more d) ih
theorem Tr.Off.up {w : World} {g : Nat} : ∀ (k : Nat) (t : Tr), Tr.In w k t → Tr.Off g k t → Tr.Off g (k + 1) t
  | 0, _, h, _ => h.elim
  | k + 1, t, h, o => ⟨o.1, fun p hp => by
      obtain ⟨j, hj, rfl⟩ := List.getElem_of_mem hp
      exact Tr.Off.up k _ (h.2.2.2 j hj) (o.2 _ hp)⟩
theorem Tr.Off.le {w : World} {g k k' : Nat} {t : Tr} (h : Tr.In w k t) (o : Tr.Off g k t) (hk : k ≤ k') : Tr.Off g k' t := by
  obtain ⟨d, rfl⟩ : ∃ d, k' = k + d := ⟨k' - k, by omega⟩
  clear hk
  induction d with
  | zero => exact o
  | succ d ih => exact Tr.Off.up (k + d) t (h.more d) ih
theorem Tr.In.out' {w : World} {lo : Nat} (hl : w.heap.size ≤ lo) (hi : Nat) : ∀ (k : Nat) (t : Tr), Tr.In w k t → Tr.Out lo hi k t
  | 0, _, _ => trivial
  | k + 1, t, h => ⟨fun h0 b off e => by
      obtain ⟨b', off', e', hlt, _⟩ := h.2.2.1 h0
      rw [e] at e'
      injection e' with e'
      injection e' with e1
      omega, fun p hp => by
      obtain ⟨j, hj, rfl⟩ := List.getElem_of_mem hp
      exact Tr.In.out' hl hi k _ (h.2.2.2 j hj)⟩
/-- The first place of each list may be held against another's. -/
def Tr.Sol (w : World) : Nat → Tr → Prop
  | 0, _ => True
  | k + 1, t => (0 < t.n → ∀ b off, t.addr = some ⟨b, off, none⟩ → w.frozen? ⟨b, off, none⟩ = false) ∧ ∀ p ∈ t.parts, Tr.Sol w k p
theorem Tr.Sol.grown {w w' : World} {row : Option Nat} (hg : w.grownBy w' row) : ∀ (k : Nat) (t : Tr), (∀ g, row = some g → Tr.Off g k t) → Tr.In w k t → Tr.Sol w k t → Tr.Sol w' k t
  | 0, _, _, _, _ => trivial
  | k + 1, t, hf, h, hs => ⟨fun h0 b off e => by
      obtain ⟨b', off', e', hlt, _⟩ := h.2.2.1 h0
      rw [e] at e'
      injection e' with e'
      injection e' with e1 e2
      subst e1; subst e2
      rw [World.frozen?_of_block (w := w) (hg.block b hlt (fun q => (hf b q.symm).1 h0 b off e rfl))]
      exact hs.1 h0 b off e, fun p hp => by
      obtain ⟨j, hj, rfl⟩ := List.getElem_of_mem hp
      exact Tr.Sol.grown hg k _ (fun g e => (hf g e).2 _ hp) (h.2.2.2 j hj) (hs.2 _ hp)⟩
theorem Tr.Sol.up {w : World} : ∀ (k : Nat) (t : Tr), Tr.In w k t → Tr.Sol w k t → Tr.Sol w (k + 1) t
  | 0, _, h, _ => h.elim
  | k + 1, t, h, o => ⟨o.1, fun p hp => by
      obtain ⟨j, hj, rfl⟩ := List.getElem_of_mem hp
      exact Tr.Sol.up k _ (h.2.2.2 j hj) (o.2 _ hp)⟩
/-- A tree lies in memory, and its lists may be held against each other. -/
def Tr.Ins (w : World) (k : Nat) (t : Tr) : Prop := Tr.In w k t ∧ Tr.Sol w k t
theorem Tr.Ins.grown {w w' : World} {row : Option Nat} (hg : w.grownBy w' row) (k : Nat) (t : Tr) (hf : ∀ g, row = some g → Tr.Off g k t) (h : Tr.Ins w k t) : Tr.Ins w' k t := ⟨Tr.In.grown hg k t hf h.1, Tr.Sol.grown hg k t hf h.1 h.2⟩
theorem Tr.Ins.next {w w' : World} {k : Nat} {t : Tr} (h : Tr.Ins w k t) (hb : Below w.heap.size w w') : Tr.Ins w' k t := Tr.Ins.grown (row := none) ⟨hb.os, hb.tape, hb.output, hb.size, fun i hi _ => hb.block i hi⟩ k t (fun g e => by cases e) h
theorem Tr.Ins.below {w w' : World} {B k : Nat} {t : Tr} (h : Tr.Ins w k t) (hB : w.heap.size ≤ B) (hb : Below B w w') : Tr.Ins w' k t := h.next (hb.mono hB)
theorem Tr.Ins.up {w : World} {k : Nat} {t : Tr} (h : Tr.Ins w k t) : Tr.Ins w (k + 1) t := ⟨Tr.In.up _ _ h.1, Tr.Sol.up _ _ h.1 h.2⟩
theorem Tr.Ins.upto {w : World} {t : Tr} {k k' : Nat} (h : Tr.Ins w k t) (hk : k ≤ k') : Tr.Ins w k' t := by
  obtain ⟨d, rfl⟩ : ∃ d, k' = k + d := ⟨k' - k, by omega⟩
  clear hk
  induction d with
  | zero => exact h
  | succ d ih => exact ih.up
/-- A tree lies in memory, its blocks out of [lo, hi); without its addresses it is T. -/
def Tr.Is (w : World) (lo hi : Nat) (t T : Tr) : Prop := ∃ k, Tr.Ins w k t ∧ Tr.Out lo hi k t ∧ ∀ k', k ≤ k' → t.strip k' = T
theorem Tr.Is.lower {w : World} {lo hi hi' : Nat} {t T : Tr} (h : Tr.Is w lo hi t T) (hh : hi' ≤ hi) : Tr.Is w lo hi' t T := by
  obtain ⟨k, h1, h2, h3⟩ := h
  exact ⟨k, h1, h2.lower hh, h3⟩
theorem Tr.Is.grown {w w' : World} {lo hi g : Nat} {t T : Tr} (h : Tr.Is w lo hi t T) (hg : w.grownBy w' (some g)) (h1 : lo ≤ g) (h2 : g < hi) : Tr.Is w' lo hi t T := by
  obtain ⟨k, i1, i2, i3⟩ := h
  exact ⟨k, Tr.Ins.grown hg k t (fun b e => by cases e; exact i2.off h1 h2) i1, i2, i3⟩
theorem Tr.Is.next {w w' : World} {lo hi : Nat} {t T : Tr} (h : Tr.Is w lo hi t T) (hb : Below w.heap.size w w') : Tr.Is w' lo hi t T := by
  obtain ⟨k, i1, i2, i3⟩ := h
  exact ⟨k, i1.next hb, i2, i3⟩
theorem Tr.Is.same {w w' : World} {lo hi : Nat} {t T : Tr} (h : Tr.Is w lo hi t T) (e : w'.heap = w.heap) (e1 : w'.os = w.os) (e2 : w'.tape = w.tape) (e3 : w'.output = w.output) : Tr.Is w' lo hi t T := by
  obtain ⟨k, i1, i2, i3⟩ := h
  exact ⟨k, Tr.Ins.next (w' := w') i1 ⟨e1, e2, e3, by rw [e]; exact Nat.le_refl _, fun q _ => by rw [e]⟩, i2, i3⟩
/-- A block that is new holds nothing of it. -/
theorem Tr.Is.wide {w : World} {lo hi hi' : Nat} {t T : Tr} (h : Tr.Is w lo hi t T) (hs : w.heap.size ≤ hi') : ∀ b, hi' ≤ b → ∃ k, Tr.Ins w k t ∧ Tr.Off b k t := fun b hb => by
  obtain ⟨k, i1, i2, i3⟩ := h
  exact ⟨k, i1, Tr.Off.new (by omega) k t i1.1⟩
theorem Tr.Is.kept {w w' : World} {lo hi g : Nat} {t T : Tr} (h : Tr.Is w lo hi t T) (hg : w.grownBy w' (some g)) (hs : w.heap.size ≤ g) : Tr.Is w' lo hi t T := by
  obtain ⟨k, i1, i2, i3⟩ := h
  exact ⟨k, Tr.Ins.grown hg k t (fun b e => by cases e; exact Tr.Off.new hs k t i1.1) i1, i2, i3⟩
theorem Tr.Off.down {g : Nat} : ∀ (k : Nat) (t : Tr), Tr.Off g (k + 1) t → Tr.Off g k t
  | 0, _, _ => trivial
  | k + 1, t, h => ⟨h.1, fun p hp => Tr.Off.down k p (h.2 p hp)⟩
theorem Tr.Off.any {w : World} {g k k' : Nat} {t : Tr} (h : Tr.In w k t) (o : Tr.Off g k t) : Tr.Off g k' t := by
  rcases Nat.le_total k k' with q | q
  · exact Tr.Off.le h o q
  · obtain ⟨d, rfl⟩ : ∃ d, k = k' + d := ⟨k - k', by omega⟩
    clear q h
    induction d with
    | zero => exact o
    | succ d ih => exact ih (Tr.Off.down (k' + d) t o)
/-- A block that another claim keeps out of the tree is written. -/
theorem Tr.Is.grown2 {w w' : World} {lo hi lo2 hi2 b : Nat} {t T T2 : Tr} (h : Tr.Is w lo hi t T) (h2 : Tr.Is w lo2 hi2 t T2) (hg : w.grownBy w' (some b)) (h3 : lo2 ≤ b) (h4 : b < hi2) : Tr.Is w' lo hi t T := by
  obtain ⟨k, i1, i2, i3⟩ := h
  obtain ⟨m, j1, j2, j3⟩ := h2
  exact ⟨k, Tr.Ins.grown hg k t (fun c e => by cases e; exact Tr.Off.any j1.1 (j2.off h3 h4)) i1, i2, i3⟩
/-- What is new is out of the tree. -/
theorem Tr.Is.new {w : World} {lo hi : Nat} {t T : Tr} (h : Tr.Is w lo hi t T) (lo2 hi2 : Nat) (hl : w.heap.size ≤ lo2) : Tr.Is w lo2 hi2 t T := by
  obtain ⟨k, i1, i2, i3⟩ := h
  refine ⟨k, i1, ?_, i3⟩
  have := Tr.In.out' hl hi2 k t i1.1
  exact this
theorem I64_zero : I64 0 := by unfold I64; exact ⟨by decide, by decide⟩
theorem zero_ok : (⟨0, 0, 0, 0⟩ : St).Ok := by refine ⟨?_, ?_, ?_, ?_⟩ <;> (show (0 : Nat) < _; decide)
/-- A node of no parts. -/
def leafT (kind : Int) (set : St) (neg : Bool) : Tr := .node kind set none 0 0 [] 0 0 neg
theorem leaf_is (w : World) (lo hi : Nat) (kind : Int) (set : St) (neg : Bool) (hs : set.Ok) (hk : I64 kind) : Tr.Is w lo hi (leafT kind set neg) (leafT kind set neg) := by
  refine ⟨1, ⟨⟨⟨hs, hk, I64_zero, I64_zero⟩, ⟨rfl, Nat.zero_le _⟩, fun h0 => absurd h0 (Nat.lt_irrefl 0), fun j hj => absurd hj (Nat.not_lt_zero _)⟩, ⟨fun h0 => absurd h0 (Nat.lt_irrefl 0), fun p hp => absurd hp (List.not_mem_nil)⟩⟩, ⟨fun h0 => absurd h0 (Nat.lt_irrefl 0), fun p hp => absurd hp (List.not_mem_nil)⟩, fun k' hk' => ?_⟩
  obtain ⟨d, rfl⟩ : ∃ d, k' = d + 1 := ⟨k' - 1, by omega⟩
  rfl
/-- A node over what a list of one's own says. -/
def nodeT (kind : Int) (parts : List Tr) (lo hi : Int) (neg : Bool) : Tr := .node kind ⟨0, 0, 0, 0⟩ none parts.length 0 parts lo hi neg

/- Lists of trees that are appended to. -/
structure PartsIn (w : World) (H0 H : Nat) (v : Value) (L Ls : List Tr) : Prop where
  own : w.ownsRow H 34 9 v L.length (L.flatMap Tr.cs)
  ins : ∃ k, (∀ p ∈ L, Tr.Ins w k p ∧ Tr.Out H0 H k p ∧ ∀ b, v.ownBlock = some b → Tr.Off b k p) ∧ ∀ k', k ≤ k' → L.map (Tr.strip k') = Ls
section
variable {w w' : World} {H0 H : Nat} {v : Value} {L Ls : List Tr}
theorem PartsIn.nil (w : World) (H0 H : Nat) : PartsIn w H0 H (.slice none 0 0) [] [] := ⟨⟨rfl, Or.inl ⟨rfl, rfl⟩⟩, 0, fun p hp => absurd hp (List.not_mem_nil), fun _ _ => rfl⟩
theorem PartsIn.len (h : PartsIn w H0 H v L Ls) : L.length = Ls.length := by
  obtain ⟨k, _, h2⟩ := h.ins
  rw [← h2 k (Nat.le_refl _), List.length_map]
theorem PartsIn.form (h : PartsIn w H0 H v L Ls) : ∃ A c, v = .slice A L.length c := by
  obtain ⟨_, h | ⟨g, cap, cur, e, _⟩⟩ := h.own
  · exact ⟨none, 0, by rw [h.1, h.2]⟩
  · exact ⟨_, _, e⟩
theorem PartsIn.low (h : PartsIn w H0 H v L Ls) : ∀ b, v.ownBlock = some b → H ≤ b ∧ b < w.heap.size := fun b hb => h.own.lt b hb
theorem ownsRow_grown {w w' : World} {base : Nat} {e : TypeId} {size : Nat} {v : Value} {n : Nat} {xs : List Value} {g : Nat} (h : w.ownsRow base e size v n xs) (hg : w.grownBy w' (some g)) (hb : g < base) : w'.ownsRow base e size v n xs := by
  obtain ⟨h1, h2⟩ := h
  refine ⟨h1, ?_⟩
  rcases h2 with h2 | ⟨b, cap, cur, hv, hbb, hh, r⟩
  · exact Or.inl h2
  · refine Or.inr ⟨b, cap, cur, hv, hbb, ?_, r⟩
    have hlt : b < w.heap.size := by
      rcases Nat.lt_or_ge b w.heap.size with q | q
      · exact q
      · rw [Array.getElem?_eq_none q] at hh; cases hh
    rw [hg.block b hlt (fun e => by cases e; omega)]; exact hh
theorem PartsIn.grown {g : Nat} (h : PartsIn w H0 H v L Ls) (hg : w.grownBy w' (some g)) (h1 : H0 ≤ g) (h2 : g < H) : PartsIn w' H0 H v L Ls := by
  refine ⟨ownsRow_grown h.own hg h2, ?_⟩
  obtain ⟨k, i1, i2⟩ := h.ins
  exact ⟨k, fun p hp => ⟨Tr.Ins.grown hg k p (fun b e => by cases e; exact (i1 p hp).2.1.off h1 h2) (i1 p hp).1, (i1 p hp).2⟩, i2⟩
theorem PartsIn.next (h : PartsIn w H0 H v L Ls) (hb : Below w.heap.size w w') : PartsIn w' H0 H v L Ls := by
  have hg := wds_grown hb none
  refine ⟨?_, ?_⟩
  · obtain ⟨h1, h2⟩ := h.own
    refine ⟨h1, ?_⟩
    rcases h2 with h2 | ⟨b, cap, cur, hv, hbb, hh, r⟩
    · exact Or.inl h2
    · refine Or.inr ⟨b, cap, cur, hv, hbb, ?_, r⟩
      have hlt : b < w.heap.size := by
        rcases Nat.lt_or_ge b w.heap.size with q | q
        · exact q
        · rw [Array.getElem?_eq_none q] at hh; cases hh
      rw [hg.block b hlt (fun e => by cases e)]; exact hh
  · obtain ⟨k, i1, i2⟩ := h.ins
    exact ⟨k, fun p hp => ⟨(i1 p hp).1.next hb, (i1 p hp).2⟩, i2⟩
/-- One more, behind an append. -/
theorem PartsIn.push {p P : Tr} {g cap Hs Hp : Nat} (h : PartsIn w H0 H v L Ls) (hp : Tr.Is w H0 Hp p P) (hHp : H ≤ Hp) (hlow : ∀ b, v.ownBlock = some b → b < Hp) (hH0 : H0 ≤ H)
    (hown : w'.ownsRow H 34 9 (.slice (some ⟨g, 0, none⟩) (L.length + 1) cap) (L.length + 1) (L.flatMap Tr.cs ++ p.cs)) (hg : w.grownBy w' v.ownBlock) (hat : v.ownBlock = some g ∨ g = Hs) (hHs : w.heap.size ≤ Hs) :
    PartsIn w' H0 H (.slice (some ⟨g, 0, none⟩) (L.length + 1) cap) (L ++ [p]) (Ls ++ [P]) := by
  obtain ⟨k, i1, i2⟩ := h.ins
  obtain ⟨m, j1, j2, j3⟩ := hp
  have hb : ∀ b, v.ownBlock = some b → H ≤ b := fun b e => (h.low b e).1
  have key : ∀ q, q ∈ L ∨ q = p → Tr.Ins w (k + m) q ∧ Tr.Out H0 H (k + m) q ∧ ∀ b, v.ownBlock = some b → Tr.Off b (k + m) q := by
    intro q hq
    rcases hq with hq | rfl
    · obtain ⟨a1, a2, a3⟩ := i1 q hq
      exact ⟨a1.upto (by omega), Tr.Out.le a1.1 a2 (by omega), fun b e => Tr.Off.le a1.1 (a3 b e) (by omega)⟩
    · exact ⟨j1.upto (by omega), (Tr.Out.le j1.1 j2 (by omega)).lower hHp, fun b e => (Tr.Out.le j1.1 j2 (by omega)).off (Nat.le_trans hH0 (hb b e)) (hlow b e)⟩
  refine ⟨by simpa using hown, k + m, fun q hq => ?_, fun k' hk' => ?_⟩
  · have hq' : q ∈ L ∨ q = p := by simpa using hq
    obtain ⟨a1, a2, a3⟩ := key q hq'
    refine ⟨Tr.Ins.grown hg (k + m) q a3 a1, a2, fun b e => ?_⟩
    have e' : g = b := by simpa [Value.ownBlock] using e
    subst e'
    rcases hat with hat | rfl
    · exact a3 g hat
    · exact Tr.Off.new hHs (k + m) q a1.1
  · rw [List.map_append, i2 k' (by omega), List.map_singleton, j3 k' (by omega)]
end

/-- A node over an own list. -/
theorem PartsIn.node {w : World} {H0 H n c : Nat} {A : Option Addr} {L Ls : List Tr} {kd lo hi : Int} {neg : Bool} (hkd : I64 kd) (hlo : I64 lo) (hhi : I64 hi) (hn2 : L.length ≤ 1000000)
    (h : PartsIn w H0 H (.slice A n c) L Ls) (hn : n = L.length) : Tr.Is w H0 H (.node kd ⟨0, 0, 0, 0⟩ A n c L lo hi neg) (nodeT kd Ls lo hi neg) := by
  subst hn
  obtain ⟨k, i1, i2⟩ := h.ins
  refine ⟨k + 1, ⟨⟨⟨zero_ok, hkd, hlo, hhi⟩, ⟨rfl, by show L.length ≤ _; omega⟩, fun h0 => ?_, fun j hj => (i1 _ (List.getElem_mem hj)).1.1⟩, ⟨fun h0 b off e => ?_, fun p hp => (i1 p hp).1.2⟩⟩, ⟨fun h0 b off e => ?_, fun p hp => (i1 p hp).2.1⟩, fun k' hk' => ?_⟩
  · have h0' : 0 < L.length := h0
    obtain ⟨_, h | ⟨g, cap, cur, e, hb, hh, hc1, hc2, hc3, hx⟩⟩ := h.own
    · exact absurd h.2 (by omega)
    · injection e with e1 e2 e3
      subst e1
      refine ⟨g, 0, rfl, ?_, fun j hj i u hu => ?_⟩
      · rcases Nat.lt_or_ge g w.heap.size with q | q
        · exact q
        · rw [Array.getElem?_eq_none q] at hh; cases hh
      · have hj' : j < L.length := hj
        have hi : i < 9 := by have := (List.getElem?_eq_some_iff.1 hu).1; rwa [Tr.cs_length] at this
        have hA : At w g 34 cur := hh
        show w.cell? ⟨g, 0 + j * 9 + i, none⟩ = some u
        rw [Nat.zero_add, hA.cell]
        have e2 : cur[j * 9 + i]? = (cur.toList.take (L.length * 9))[j * 9 + i]? := by
          rw [List.getElem?_take_of_lt (by omega)]; simp
        rw [e2, hx, flat_at L j i hj' hi]
        exact hu
  · have h0' : 0 < L.length := h0
    obtain ⟨_, h | ⟨g, cap, cur, e', hb, hh, hc1, hc2, hc3, hx⟩⟩ := h.own
    · exact absurd h.2 (by omega)
    · injection e' with e1 e2 e3
      have e0 : A = some ⟨b, off, none⟩ := e
      rw [e0] at e1
      injection e1 with e1
      injection e1 with e1 e4
      subst e1; subst e4
      have hA : At w b 34 cur := hh
      exact hA.free 0
  · have h0' : 0 < L.length := h0
    obtain ⟨_, h | ⟨g, cap, cur, e', hb, hh, hc1, hc2, hc3, hx⟩⟩ := h.own
    · exact absurd h.2 (by omega)
    · injection e' with e1 e2 e3
      have e0 : A = some ⟨b, off, none⟩ := e
      rw [e0] at e1
      injection e1 with e1
      injection e1 with e1
      omega
  · obtain ⟨d, rfl⟩ : ∃ d, k' = d + 1 := ⟨k' - 1, by omega⟩
    show Tr.node kd ⟨0, 0, 0, 0⟩ none L.length 0 (L.map (Tr.strip d)) lo hi neg = _
    rw [i2 d (by omega), h.len]; rfl

/- The words that are still to come: they lie below g. -/
def WordsIn (w : World) (g : Nat) (v : Value) (ws : List (Wd × Nat)) : Prop :=
  ∃ A cap, v = .slice A ws.length cap ∧ (ws.length ≤ cap ∧ cap ≤ 9223372036854775807) ∧ (0 < ws.length → ∃ b off, A = some ⟨b, off, none⟩ ∧ b < g ∧ ∀ j (h : j < ws.length), w.rangeAt b (off + j * 9) (wdCells ws[j].1 ws[j].2).toList)
theorem WordsIn.keep {w w' : World} {g : Nat} {v : Value} {ws : List (Wd × Nat)} (h : WordsIn w g v ws) (hb : Below g w w') : WordsIn w' g v ws := by
  obtain ⟨A, cap, h1, h2, h3⟩ := h
  refine ⟨A, cap, h1, h2, fun h0 => ?_⟩
  obtain ⟨b, off, e, hlt, hr⟩ := h3 h0
  refine ⟨b, off, e, hlt, fun j hj i u hu => ?_⟩
  have := hr j hj i u hu
  rw [World.cell?_of_block (w := w) (hb.block b hlt)]
  exact this
theorem WordsIn.nil (w : World) (g : Nat) : WordsIn w g (.slice none 0 0) [] := ⟨none, 0, rfl, ⟨Nat.le_refl _, by decide⟩, fun h => absurd h (Nat.lt_irrefl _)⟩

/-- What the parser keeps. -/
structure PSt where
  ws : List (Wd × Nat)
  op : Int
  flt : Int
  place : Int
def PSt.cs (s : PSt) (v : Value) (E : Nat) (D : Value) : Array Value := #[v, .int .i64 E, D, .int .i64 s.op, .int .i64 s.flt, .int .i64 s.place]
def PAt (w : World) (g E : Nat) (D : Value) (s : PSt) : Prop := ∃ v, WordsIn w g v s.ws ∧ At w g 71 (s.cs v E D)
theorem PAt.lt {w : World} {g E : Nat} {D : Value} {s : PSt} (h : PAt w g E D s) : g < w.heap.size := by obtain ⟨v, _, h⟩ := h; exact h.lt
/-- What is written lies above. -/
theorem PAt.keep {w w' : World} {g B E : Nat} {D : Value} {s : PSt} (h : PAt w g E D s) (hb : Below B w w') (hB : g < B) : PAt w' g E D s := by
  obtain ⟨v, h1, h2⟩ := h
  exact ⟨v, h1.keep (hb.mono (by omega)), h2.below hb hB⟩
theorem PAt.next {w w' : World} {g E : Nat} {D : Value} {s : PSt} (h : PAt w g E D s) (hb : Below w.heap.size w w') : PAt w' g E D s := h.keep hb h.lt
/-- How many words are still to come, read off the memory. -/
def lenAt (w : World) (g : Nat) : Nat := match w.cell? ⟨g, 0, none⟩ with | some (.slice _ n _) => n | _ => 0
theorem PAt.len {w : World} {g E : Nat} {D : Value} {s : PSt} (h : PAt w g E D s) : lenAt w g = s.ws.length := by
  obtain ⟨v, ⟨A, cap, rfl, _⟩, h2⟩ := h
  have c := h2.cell 0
  rw [show (s.cs (.slice A s.ws.length cap) E D)[0]? = some (.slice A s.ws.length cap) from rfl] at c
  unfold lenAt; rw [c]
theorem grownBy_lo {w w' : World} {g : Nat} (h : w.grownBy w' (some g)) (hg : g ≤ w.heap.size) : Below g w w' := ⟨h.os, h.tape, h.output, h.size, fun k hk => h.block k (by omega) (fun e => by cases e; omega)⟩
theorem grownBy_below {w w1 w2 : World} {g : Option Nat} (h : w.grownBy w1 g) (hb : Below w1.heap.size w1 w2) : w.grownBy w2 g :=
  ⟨hb.os.trans h.os, hb.tape.trans h.tape, hb.output.trans h.output, Nat.le_trans h.size hb.size, fun k hk hne => (hb.block k (Nat.lt_of_lt_of_le hk h.size)).trans (h.block k hk hne)⟩
/-- What is written lies above. -/
theorem grownBy_from {B : Nat} {w w1 w2 : World} {g : Option Nat} (h : w.grownBy w1 g) (hb : Below B w1 w2) (hB : w.heap.size ≤ B) : w.grownBy w2 g :=
  ⟨hb.os.trans h.os, hb.tape.trans h.tape, hb.output.trans h.output, Nat.le_trans h.size hb.size, fun k hk hne => (hb.block k (Nat.lt_of_lt_of_le hk hB)).trans (h.block k hk hne)⟩
theorem grownBy_trans {w w1 w2 : World} {g : Option Nat} (h : w.grownBy w1 g) (h' : w1.grownBy w2 g) : w.grownBy w2 g :=
  ⟨h'.os.trans h.os, h'.tape.trans h.tape, h'.output.trans h.output, Nat.le_trans h.size h'.size, fun k hk hne => (h'.block k (Nat.lt_of_lt_of_le hk h.size) hne).trans (h.block k hk hne)⟩
theorem grownBy_refl (w : World) (g : Option Nat) : w.grownBy w g := ⟨rfl, rfl, rfl, Nat.le_refl _, fun _ _ _ => rfl⟩
theorem grownBy_set (w : World) (g i : Nat) (v : Value) : w.grownBy (w.setCell ⟨g, i, none⟩ v) (some g) :=
  ⟨rfl, rfl, rfl, by simp [World.setCell], fun k hk hne => Below.heap_setCell w ⟨g, i, none⟩ v k (fun e => hne (by rw [e]))⟩
theorem Only.grownBy {g : Nat} {w w' : World} (h : Only g w w') : w.grownBy w' (some g) := ⟨h.1, h.2.1, h.2.2.1, by rw [h.2.2.2.1]; exact Nat.le_refl _, fun k _ hne => h.2.2.2.2 k (fun e => hne (by rw [e]))⟩

/- What each word does: the mathematics. -/
def peekS (E : Nat) (s : PSt) : Wd × Nat := match s.ws with | [] => (wd0, E) | x :: _ => x
def nextS (s : PSt) : PSt := { s with ws := s.ws.tail }
def failS (at_ e : Int) (s : PSt) : PSt := if s.flt = 0 then { s with ws := [], flt := e, place := at_ } else s
def enterS (at_ : Int) (s : PSt) : PSt := if s.op + 1 > 40 then failS at_ 8 { s with op := s.op + 1 } else { s with op := s.op + 1 }
def leaveS (s : PSt) : PSt := { s with op := s.op - 1 }
def joinS (kind : Int) (l : List Tr) : Tr := match l with | [t] => t | l => nodeT kind l 0 0 false
def notBegins (k : Int) : Bool := decide (k = 6 ∨ k = 1 ∨ k = 11 ∨ k = 16 ∨ k = 17 ∨ k = 2 ∨ k = 12 ∨ k = 13 ∨ k = 14 ∨ k = 15)
/-- How often, and whether the word says so. -/
def timesW (x : Wd) : Int × Int × Bool :=
  if x.kind = 7 then (0, -1, true) else if x.kind = 8 then (1, -1, true) else if x.kind = 9 then (0, 1, true) else if x.kind = 10 then (x.lo, x.hi, true) else (0, 0, false)
/-- The members behind signs. -/
def restS (E : Nat) (sign : Int) (m : PSt → Tr × PSt) : Nat → List Tr → PSt → List Tr × PSt
  | 0, l, s => (l, s)
  | f + 1, l, s => if (peekS E s).1.kind = sign then restS E sign m f (l ++ [(m (nextS s)).1]) (m (nextS s)).2 else (l, s)
def betweenS (E : Nat) (sign kind : Int) (m : PSt → Tr × PSt) (f : Nat) (s : PSt) : Tr × PSt :=
  (joinS kind (restS E sign m f [(m s).1] (m s).2).1, (restS E sign m f [(m s).1] (m s).2).2)
def nots (E : Nat) (m : PSt → Tr × PSt) : Nat → List Tr → PSt → List Tr × PSt
  | 0, l, s => (l, s)
  | f + 1, l, s => if notBegins (peekS E s).1.kind then nots E m f (l ++ [(m s).1]) (m s).2 else (l, s)
def catS (E : Nat) (m : PSt → Tr × PSt) (f : Nat) (s : PSt) : Tr × PSt :=
  (if (nots E m f [] s).1.length = 0 then leafT 1 ⟨0, 0, 0, 0⟩ false else joinS 3 (nots E m f [] s).1, (nots E m f [] s).2)
def orS (E : Nat) (m : PSt → Tr × PSt) (f : Nat) (s : PSt) : Tr × PSt := betweenS E 4 4 (betweenS E 5 5 (catS E m f) f) f s
def lookS : List (ByteArray × Tr) → Wd × Nat → PSt → Tr × PSt
  | [], x, s => (leafT 0 ⟨0, 0, 0, 0⟩ false, failS x.2 5 s)
  | d :: r, x, s => if d.1 = x.1.name then (d.2, s) else lookS r x s
def bracketS (E : Nat) (m : PSt → Tr × PSt) (f : Nat) (at_ : Nat) (s : PSt) : Tr × PSt :=
  let r := orS E m f (enterS at_ s)
  let s1 := leaveS r.2
  (r.1, if (peekS E s1).1.kind = 3 then nextS s1 else failS (peekS E s1).2 2 (nextS s1))
def atomS (E : Nat) (ds : List (ByteArray × Tr)) (m : PSt → Tr × PSt) (f : Nat) (s : PSt) : Tr × PSt :=
  let x := peekS E s
  let s1 := nextS s
  if x.1.kind = 1 then (leafT 2 x.1.set false, s1)
  else if x.1.kind = 11 then lookS ds x s1
  else if x.1.kind = 16 then (leafT 10 ⟨0, 0, 0, 0⟩ false, s1)
  else if x.1.kind = 17 then (leafT 11 ⟨0, 0, 0, 0⟩ false, s1)
  else if x.1.kind = 2 then bracketS E m f x.2 s1
  else if x.1.kind = 12 ∨ x.1.kind = 13 then (nodeT 8 [(bracketS E m f x.2 s1).1] 0 0 (decide (x.1.kind = 13 ∨ x.1.kind = 15)), (bracketS E m f x.2 s1).2)
  else if x.1.kind = 14 ∨ x.1.kind = 15 then (nodeT 9 [(bracketS E m f x.2 s1).1] 0 0 (decide (x.1.kind = 13 ∨ x.1.kind = 15)), (bracketS E m f x.2 s1).2)
  else (leafT 0 ⟨0, 0, 0, 0⟩ false, failS x.2 2 s1)
def postsS (E : Nat) : Nat → Tr → PSt → Tr × PSt
  | 0, t, s => (t, s)
  | f + 1, t, s => if (timesW (peekS E s).1).2.2 then postsS E f (nodeT 7 [t] (timesW (peekS E s).1).1 (timesW (peekS E s).1).2.1 false) (nextS s) else (t, s)
def postS (E : Nat) (ds : List (ByteArray × Tr)) (m : PSt → Tr × PSt) (f : Nat) (s : PSt) : Tr × PSt :=
  postsS E f (atomS E ds m f s).1 (atomS E ds m f s).2
def notS (E : Nat) (ds : List (ByteArray × Tr)) : Nat → PSt → Tr × PSt
  | 0, s => (Tr.blank, s)
  | f + 1, s =>
    if (peekS E s).1.kind = 6 then
      (nodeT 6 [(notS E ds f (enterS (peekS E s).2 (nextS s))).1] 0 0 false, leaveS (notS E ds f (enterS (peekS E s).2 (nextS s))).2)
    else postS E ds (notS E ds f) (f + 1) s
/-- The whole. -/
def wholeS (E : Nat) (ds : List (ByteArray × Tr)) (f : Nat) (s : PSt) : Tr × PSt :=
  let r := orS E (notS E ds f) f s
  (r.1, if (peekS E r.2).1.kind = 0 then r.2 else failS (peekS E r.2).2 2 r.2)

end Go.Proofs.Ytkbfoelffeocmaa
