/- Joined: FmFormed, FmMath, FmChosen. -/
import Derived.Test.YthifbaacmohmnaaGreatMah
import Derived.Deep.RegionHeld3
import Derived.Laws.OwnMore
import Derived.Deep.AppendLies
import Derived.Deep.OwnRows
import Derived.Lib.RabinKarpLaws
/- bolterref09.Formed of formulas. -/
namespace Go.Proofs.YthifbaacmohmnaaGreat
open Go.RowKit
set_option linter.unusedVariables false
set_option linter.unusedSimpArgs false

def riseTo (p : List Int) (k : Nat) : Bool := (List.range k).all (fun j => decide (0 ≤ inAt p j) && (decide (j = 0) || decide (inAt p (j - 1) < inAt p j)))
def riseS (p : List Int) : Bool := riseTo p p.length
def apartTo (f : Fm) (i k : Nat) : Bool := (List.range k).all (fun j => !partS (paAt f j) (paAt f i))
def okAt (f : Fm) (i : Nat) : Bool := riseS (paAt f i) && ((decide (i = 0) || lessS (paAt f (i - 1)) (paAt f i)) && apartTo f i i)
def fmdTo (f : Fm) (i : Nat) : Bool := (List.range i).all (okAt f)
/-- A formed formula. -/
def fmS (f : Fm) : Bool := fmdTo f f.length
theorem holds_one (p on : List Int) : holdsS [p] on = partS p on := by unfold holdsS; simp
end Go.Proofs.YthifbaacmohmnaaGreat

/- Formed formulas: two that hold alike are the same. Mathematics; no program is named. -/
namespace Go.Proofs.YthifbaacmohmnaaGreat
set_option linter.unusedVariables false
set_option linter.unusedSimpArgs false

def Up (p : List Int) : Prop := p.Pairwise (fun a b => a < b)
theorem all_range {g : Nat → Bool} {n : Nat} : (List.range n).all g = true ↔ ∀ k, k < n → g k = true := by
  rw [List.all_eq_true]
  exact ⟨fun h k hk => h k (List.mem_range.2 hk), fun h k hk => h k (List.mem_range.1 hk)⟩
theorem up_of_steps {α : Type} {R : α → α → Prop} (ht : ∀ a b c, R a b → R b c → R a c) : ∀ (l : List α), (∀ k (h : k + 1 < l.length), R l[k] l[k + 1]) → l.Pairwise R
  | [], _ => List.Pairwise.nil
  | [a], _ => List.pairwise_singleton _ _
  | a :: b :: l, h => by
    have h1 : R a b := h 0 (by simp)
    have ih := up_of_steps ht (b :: l) (fun k hk => h (k + 1) (by simpa using hk))
    refine List.pairwise_cons.2 ⟨fun x hx => ?_, ih⟩
    rcases List.mem_cons.1 hx with rfl | hx
    · exact h1
    · exact ht _ _ _ h1 ((List.pairwise_cons.1 ih).1 x hx)
theorem rise_up {p : List Int} (h : riseS p = true) : Up p ∧ ∀ x ∈ p, 0 ≤ x := by
  have hk := all_range.1 h
  refine ⟨up_of_steps (R := fun a b : Int => a < b) (fun a b c h h' => Int.lt_trans h h') p (fun k hk1 => ?_), fun x hx => ?_⟩
  · have := hk (k + 1) hk1
    simp only [Bool.and_eq_true, Bool.or_eq_true, decide_eq_true_eq] at this
    have h2 := this.2
    rw [Nat.add_sub_cancel, inAt_lt (by omega), inAt_lt hk1] at h2
    rcases h2 with h2 | h2
    · omega
    · exact h2
  · obtain ⟨k, hk1, rfl⟩ := List.mem_iff_getElem.1 hx
    have := hk k hk1
    simp only [Bool.and_eq_true, decide_eq_true_eq] at this
    rw [inAt_lt hk1] at this
    exact this.1
theorem has_iff {l : List Int} {x : Int} : hasS l x = true ↔ x ∈ l := by
  unfold hasS
  rw [List.any_eq_true]
  exact ⟨fun ⟨y, hy, e⟩ => by rw [beq_iff_eq] at e; rw [← e]; exact hy, fun h => ⟨x, h, by simp⟩⟩
theorem part_iff {p on : List Int} : partS p on = true ↔ ∀ x ∈ p, x ∈ on := by
  unfold partS
  rw [List.all_eq_true]
  exact ⟨fun h x hx => has_iff.1 (h x hx), fun h x hx => has_iff.2 (h x hx)⟩
theorem holds_iff {f : Fm} {on : List Int} : holdsS f on = true ↔ ∃ p ∈ f, ∀ x ∈ p, x ∈ on := by
  unfold holdsS
  rw [List.any_eq_true]
  exact ⟨fun ⟨p, hp, h⟩ => ⟨p, hp, part_iff.1 h⟩, fun ⟨p, hp, h⟩ => ⟨p, hp, part_iff.2 h⟩⟩
/-- Of two lists that rise, one whose numbers are all in the other one is a part of it. -/
theorem up_sub : ∀ (q p : List Int), Up p → Up q → (∀ x ∈ p, x ∈ q) → p.Sublist q
  | [], p, _, _, h => by
    cases p with
    | nil => exact List.Sublist.slnil
    | cons x p => exact absurd (h x List.mem_cons_self) List.not_mem_nil
  | y :: q, [], _, _, _ => List.nil_sublist _
  | y :: q, x :: p, hp, hq, h => by
    obtain ⟨p1, p2⟩ := List.pairwise_cons.1 hp
    obtain ⟨q1, q2⟩ := List.pairwise_cons.1 hq
    by_cases e : x = y
    · subst e
      refine List.Sublist.cons_cons _ (up_sub q p p2 q2 (fun z hz => ?_))
      rcases List.mem_cons.1 (h z (List.mem_cons_of_mem _ hz)) with rfl | hz'
      · have := p1 _ hz; omega
      · exact hz'
    · have hx : x ∈ q := by
        rcases List.mem_cons.1 (h x List.mem_cons_self) with e' | hx
        · exact absurd e' e
        · exact hx
      have hyx := q1 x hx
      refine List.Sublist.cons _ (up_sub q (x :: p) hp q2 (fun z hz => ?_))
      rcases List.mem_cons.1 (h z hz) with rfl | hz'
      · rcases List.mem_cons.1 hz with rfl | hz
        · exact absurd rfl e
        · have := p1 _ hz; omega
      · exact hz'
theorem up_eq {p q : List Int} (hp : Up p) (hq : Up q) (h : ∀ x ∈ p, x ∈ q) (h' : ∀ x ∈ q, x ∈ p) : p = q :=
  (up_sub q p hp hq h).eq_of_length (Nat.le_antisymm (up_sub q p hp hq h).length_le (up_sub p q hq hp h').length_le)
theorem up_len {p q : List Int} (hp : Up p) (hq : Up q) (h : ∀ x ∈ p, x ∈ q) (hl : q.length ≤ p.length) : p = q :=
  (up_sub q p hp hq h).eq_of_length (Nat.le_antisymm (up_sub q p hp hq h).length_le hl)
/- The order of the parts. -/
theorem lex_irr : ∀ a : List Int, lexS a a = false
  | [] => rfl
  | x :: a => by show (if x = x then lexS a a else _) = false; rw [if_pos rfl]; exact lex_irr a
theorem lex_trans : ∀ a b c : List Int, a.length = b.length → b.length = c.length → lexS a b = true → lexS b c = true → lexS a c = true
  | [], _, _, _, _, h, _ => by cases h
  | x :: a, [], _, h, _, _, _ => by simp at h
  | x :: a, y :: b, [], _, h, _, _ => by simp at h
  | x :: a, y :: b, z :: c, h1, h2, h3, h4 => by
    have e3 : (if x = y then lexS a b else decide (x < y)) = true := h3
    have e4 : (if y = z then lexS b c else decide (y < z)) = true := h4
    show (if x = z then lexS a c else decide (x < z)) = true
    by_cases c1 : x = y
    · subst c1
      rw [if_pos rfl] at e3
      by_cases c2 : x = z
      · rw [if_pos c2] at e4 ⊢
        exact lex_trans a b c (by simpa using h1) (by simpa using h2) e3 e4
      · rw [if_neg c2] at e4 ⊢; exact e4
    · rw [if_neg c1] at e3
      have g1 := of_decide_eq_true e3
      by_cases c2 : y = z
      · subst c2; rw [if_neg c1]; exact e3
      · rw [if_neg c2] at e4
        have g2 := of_decide_eq_true e4
        rw [if_neg (by omega)]; exact decide_eq_true (by omega)
theorem less_irr (a : List Int) : lessS a a = false := by unfold lessS; rw [if_pos rfl]; exact lex_irr a
theorem less_len {a b : List Int} (h : lessS a b = true) : a.length ≤ b.length := by
  unfold lessS at h
  split at h
  · omega
  · have := of_decide_eq_true h; omega
theorem less_trans {a b c : List Int} (h : lessS a b = true) (h' : lessS b c = true) : lessS a c = true := by
  have l1 := less_len h
  have l2 := less_len h'
  unfold lessS at h h' ⊢
  by_cases c1 : a.length = b.length
  · rw [if_pos c1] at h
    by_cases c2 : b.length = c.length
    · rw [if_pos c2] at h'
      rw [if_pos (by omega)]
      exact lex_trans a b c c1 c2 h h'
    · rw [if_neg (by omega)]; exact decide_eq_true (by omega)
  · rw [if_neg (by omega)]; exact decide_eq_true (by omega)
theorem sorted_eq {α : Type} {R : α → α → Prop} (hi : ∀ a, ¬ R a a) (ht : ∀ a b c, R a b → R b c → R a c) : ∀ (l m : List α), l.Pairwise R → m.Pairwise R → (∀ x, x ∈ l ↔ x ∈ m) → l = m
  | [], [], _, _, _ => rfl
  | [], y :: m, _, _, h => absurd ((h y).2 List.mem_cons_self) List.not_mem_nil
  | x :: l, [], _, _, h => absurd ((h x).1 List.mem_cons_self) List.not_mem_nil
  | x :: l, y :: m, hl, hm, h => by
    obtain ⟨l1, l2⟩ := List.pairwise_cons.1 hl
    obtain ⟨m1, m2⟩ := List.pairwise_cons.1 hm
    have e : x = y := by
      rcases List.mem_cons.1 ((h x).1 List.mem_cons_self) with e | hx
      · exact e
      · rcases List.mem_cons.1 ((h y).2 List.mem_cons_self) with e | hy
        · exact e.symm
        · exact absurd (ht _ _ _ (m1 x hx) (l1 y hy)) (hi _)
    subst e
    have : l = m := sorted_eq hi ht l m l2 m2 (fun z => by
      constructor
      · intro hz
        rcases List.mem_cons.1 ((h z).1 (List.mem_cons_of_mem _ hz)) with rfl | hz'
        · exact absurd (l1 _ hz) (hi _)
        · exact hz'
      · intro hz
        rcases List.mem_cons.1 ((h z).2 (List.mem_cons_of_mem _ hz)) with rfl | hz'
        · exact absurd (m1 _ hz) (hi _)
        · exact hz')
    rw [this]
/-- What a formed formula is. -/
structure Fmd (f : Fm) : Prop where
  up : ∀ p ∈ f, Up p ∧ ∀ x ∈ p, 0 ≤ x
  sorted : f.Pairwise (fun p q => lessS p q = true)
  apart : ∀ p ∈ f, ∀ q ∈ f, (∀ x ∈ p, x ∈ q) → p = q
theorem fm_of {f : Fm} (h : fmS f = true) : Fmd f := by
  have hk := all_range.1 h
  have hi : ∀ i, i < f.length → riseS (paAt f i) = true ∧ (i = 0 ∨ lessS (paAt f (i - 1)) (paAt f i) = true) ∧ ∀ k, k < i → partS (paAt f k) (paAt f i) = false := fun i hi => by
    have := hk i hi
    unfold okAt apartTo at this
    simp only [Bool.and_eq_true, Bool.or_eq_true, decide_eq_true_eq] at this
    refine ⟨this.1, this.2.1, fun k hk => ?_⟩
    have h2 := all_range.1 this.2.2 k hk
    simpa using h2
  have hup : ∀ p ∈ f, Up p ∧ ∀ x ∈ p, 0 ≤ x := fun p hp => by
    obtain ⟨i, hi1, rfl⟩ := List.mem_iff_getElem.1 hp
    have := (hi i hi1).1
    rw [paAt_lt hi1] at this
    exact rise_up this
  have hs : f.Pairwise (fun p q => lessS p q = true) := up_of_steps (R := fun p q => lessS p q = true) (fun a b c h h' => less_trans h h') f (fun k hk => by
    have := (hi (k + 1) hk).2.1
    rw [Nat.add_sub_cancel, paAt_lt (by omega), paAt_lt hk] at this
    rcases this with h | h
    · omega
    · exact h)
  refine ⟨hup, hs, fun p hp q hq hsub => ?_⟩
  obtain ⟨i, hi1, rfl⟩ := List.mem_iff_getElem.1 hp
  obtain ⟨k, hk1, rfl⟩ := List.mem_iff_getElem.1 hq
  rcases Nat.lt_trichotomy i k with c | c | c
  · have := (hi k hk1).2.2 i c
    rw [paAt_lt hi1, paAt_lt hk1] at this
    rw [part_iff.2 hsub] at this
    cases this
  · subst c; rfl
  · have hl := less_len (List.pairwise_iff_getElem.1 hs k i hk1 hi1 c)
    have e := up_len (hup _ hp).1 (hup _ hq).1 hsub hl
    exact e
theorem fm_mk {f : Fm} (h : Fmd f) : fmS f = true := by
  refine all_range.2 (fun i hi => ?_)
  unfold okAt apartTo
  simp only [Bool.and_eq_true, Bool.or_eq_true, decide_eq_true_eq]
  refine ⟨?_, ?_, all_range.2 (fun k hk => ?_)⟩
  · rw [paAt_lt hi]
    obtain ⟨h1, h2⟩ := h.up _ (List.getElem_mem hi)
    refine all_range.2 (fun k hk => ?_)
    simp only [Bool.and_eq_true, Bool.or_eq_true, decide_eq_true_eq]
    rw [inAt_lt hk]
    refine ⟨h2 _ (List.getElem_mem hk), ?_⟩
    by_cases c : k = 0
    · exact Or.inl c
    · right
      rw [inAt_lt (by omega)]
      exact List.pairwise_iff_getElem.1 h1 (k - 1) k (by omega) hk (by omega)
  · by_cases c : i = 0
    · exact Or.inl c
    · right
      rw [paAt_lt hi, paAt_lt (by omega)]
      exact List.pairwise_iff_getElem.1 h.sorted (i - 1) i (by omega) hi (by omega)
  · cases hb : partS (paAt f k) (paAt f i) with
    | false => rfl
    | true =>
      rw [paAt_lt hi, paAt_lt (by omega)] at hb
      have e := h.apart _ (List.getElem_mem (by omega)) _ (List.getElem_mem hi) (part_iff.1 hb)
      have hl := List.pairwise_iff_getElem.1 h.sorted k i (by omega) hi hk
      rw [e, less_irr] at hl
      cases hl
/-- Two formed formulas that hold alike are the same. -/
theorem fm_unique {f g : Fm} (hf : Fmd f) (hg : Fmd g) (h : ∀ on, holdsS f on = holdsS g on) : f = g := by
  have half : ∀ {f g : Fm}, Fmd f → Fmd g → (∀ on, holdsS f on = holdsS g on) → ∀ p ∈ f, p ∈ g := by
    intro f g hf hg h p hp
    have h1 : holdsS f p = true := holds_iff.2 ⟨p, hp, fun _ hx => hx⟩
    rw [h p] at h1
    obtain ⟨q, hq, hqp⟩ := holds_iff.1 h1
    have h2 : holdsS g q = true := holds_iff.2 ⟨q, hq, fun _ hx => hx⟩
    rw [← h q] at h2
    obtain ⟨r, hr, hrq⟩ := holds_iff.1 h2
    have e := hf.apart r hr p hp (fun x hx => hqp x (hrq x hx))
    subst e
    rw [up_eq (hf.up r hr).1 (hg.up q hq).1 hrq hqp]
    exact hq
  exact sorted_eq (R := fun p q => lessS p q = true) (fun a h => by rw [less_irr] at h; cases h) (fun a b c h h' => less_trans h h') f g hf.sorted hg.sorted (fun p => ⟨half hf hg h p, half hg hf (fun on => (h on).symm) p⟩)

end Go.Proofs.YthifbaacmohmnaaGreat

/- Rows of numbers of the call's own; bolterref09.chosen. -/
namespace Go.Proofs.YthifbaacmohmnaaGreat
open Go.RowKit
set_option linter.unusedVariables false
set_option linter.unusedSimpArgs false

/-- Numbers in a row of the call's own, appended to. -/
def ZRow (w : World) (base : Nat) (v : Value) (l : List Int) : Prop := w.ownsRow base 3 1 v l.length (l.map (Value.int .i64))
section
variable {w w' : World} {base : Nat} {v : Value} {l : List Int}
theorem ZRow.nil (w : World) (base : Nat) : ZRow w base (.slice none 0 0) [] := World.ownsRow_nil w base _ 1
theorem ZRow.next (h : ZRow w base v l) (hb : Below w.heap.size w w') : ZRow w' base v l :=
  World.ownsRow.kept (row := none) h ⟨hb.os, hb.tape, hb.output, hb.size, fun i hi _ => hb.block i hi⟩ (by cases hv : v.ownBlock <;> simp)
theorem ZRow.alloc (h : ZRow w base v l) (o : Obj) : ZRow (w.alloc o) base v l := World.ownsRow.alloc h o
theorem ZRow.low (h : ZRow w base v l) : ∀ g, v.ownBlock = some g → base ≤ g := fun g hg => (World.ownsRow.lt h g hg).1
theorem ZRow.push {x : Int} (h : w.ownsRow base 3 1 v (l.length + 1) (l.map (Value.int .i64) ++ [.int .i64 x])) : ZRow w base v (l ++ [x]) := by
  unfold ZRow
  rw [List.length_append, List.map_append]
  exact h
theorem ZRow.add {m : List Int} (h : w.ownsRow base 3 1 v (l.length + m.length) (l.map (Value.int .i64) ++ m.map (Value.int .i64))) : ZRow w base v (l ++ m) := by
  unfold ZRow
  rw [List.length_append, List.map_append]
  exact h
theorem ZRow.len (h : ZRow w base v l) : ∃ A cap, v = .slice A l.length cap := by
  rcases h.2 with ⟨rfl, hn⟩ | ⟨g, cap, cur, rfl, _⟩
  · exact ⟨none, 0, by rw [hn]⟩
  · exact ⟨_, _, rfl⟩
theorem ZRow.ints (h : ZRow w base v l) (hz : ∀ x ∈ l, IsI x) : IntsAt w v l := by
  rcases h.2 with ⟨rfl, hn⟩ | ⟨g, cap, cur, rfl, hb, hc, r1, r2, r3⟩
  · exact ⟨none, 0, by rw [hn], by omega, by omega, hz, fun h0 => by omega⟩
  · unfold maxLen at r2
    refine ⟨_, _, rfl, r1, r2, hz, fun h0 => ⟨g, 0, rfl, (Array.getElem?_eq_some_iff.1 hc).1, fun j hj => ?_⟩⟩
    rw [Nat.zero_add, World.ownsRow.cellAt h j (by omega), List.getElem?_map, List.getElem?_eq_getElem hj, inAt_lt hj]; rfl
end
end Go.Proofs.YthifbaacmohmnaaGreat
