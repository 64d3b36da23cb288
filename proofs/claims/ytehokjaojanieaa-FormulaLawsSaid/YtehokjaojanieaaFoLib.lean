/- package formula: what of the library it calls: slices.BinarySearch, Equal, Sort, Compact of whole numbers. -/
import Derived.Test.YtehokjaojanieaaFoE
import Derived.Test.YtehokjaojanieaaFoM
import Derived.Test.YtehokjaojanieaaFoLay
import Derived.Sort.OwnSortedInts
import Derived.Deep.MidRow
namespace Go.Proofs.Ytehokjaojanieaa
open Go.RowKit
set_option linter.unusedVariables false
set_option linter.unusedSimpArgs false

theorem ints_getD {w : World} {b off n c : Nat} {l : List Int} (h : IntsAt w (.slice (some ⟨b, off, none⟩) n c) l) : ∀ j, j < l.length → w.cell? ⟨b, off + j, none⟩ = some (.int .i64 (l.getD j 0)) := fun j hj => by
  obtain ⟨b', off', e, _, r⟩ := h.at j hj
  injection e with e
  injection e with e1 e2
  subst e1 e2
  rw [r]; unfold inAt; rw [List.getD_eq_getElem?_getD]
theorem ints_none {w : World} {n c : Nat} {l : List Int} (h : IntsAt w (.slice none n c) l) : l = [] ∧ n = 0 := by
  obtain rfl := h.len
  by_cases h0 : 0 < l.length
  · obtain ⟨b, off, e, _⟩ := h.at 0 h0; cases e
  · exact ⟨List.eq_nil_of_length_eq_zero (by omega), by omega⟩
theorem ints_some {w : World} {a : Addr} {n c : Nat} {l : List Int} (h : IntsAt w (.slice (some a) n c) l) (h0 : 0 < l.length) : ∃ b off, a = ⟨b, off, none⟩ := by
  obtain ⟨b, off, e, _⟩ := h.at 0 h0
  injection e with e
  exact ⟨b, off, e⟩

theorem fSearch (l : List Int) (A : Option Addr) (n c : Nat) (x : Int) (w : World) (h : IntsAt w (.slice A n c) l) (hs : l.Pairwise (· ≤ ·)) (hl : l.length ≤ 4000000) :
    Calls Try.prog 69 #[.slice A n c, .int .i64 x] w fun e w' => e = .returned (.tuple #[.int .i64 (l.countP (· < x) : Nat), .bool (l.contains x)]) ∧ ∃ q, w' = w.drewN q := by
  obtain rfl := h.len
  by_cases h0 : 0 < l.length
  · cases A with
    | none => obtain ⟨rfl, _⟩ := ints_none h; exact absurd h0 (Nat.lt_irrefl _)
    | some a =>
      obtain ⟨b, off, rfl⟩ := ints_some h h0
      have := lib_slices_BinarySearch_int b off l.length c l x w (Nat.le_refl _) (by omega) (ints_getD h) (by rw [List.take_length]; exact hs)
      rwa [List.take_length] at this
  · obtain rfl : l = [] := List.eq_nil_of_length_eq_zero (by omega)
    refine (lib_slices_BinarySearch_int_empty A c x w).mono ?_
    rintro e w' ⟨rfl, rfl⟩
    exact ⟨rfl, 0, rfl⟩
theorem fEqual (a b : List Int) (A B : Option Addr) (n c m d : Nat) (w : World) (h : IntsAt w (.slice A n c) a) (h' : IntsAt w (.slice B m d) b) :
    Calls Try.prog 38 #[.slice A n c, .slice B m d] w fun e w' => e = .returned (.bool (a == b)) ∧ ∃ q, w' = w.drewN q := by
  have hm := h.max
  have hm' := h'.max
  obtain rfl := h.len
  obtain rfl := h'.len
  by_cases hl : a.length = b.length
  · by_cases h0 : 0 < a.length
    · cases A with
      | none => obtain ⟨rfl, _⟩ := ints_none h; exact absurd h0 (Nat.lt_irrefl _)
      | some x =>
        obtain ⟨b1, o1, rfl⟩ := ints_some h h0
        cases B with
        | none => obtain ⟨rfl, _⟩ := ints_none h'; rw [hl] at h0; exact absurd h0 (Nat.lt_irrefl _)
        | some y =>
          obtain ⟨b2, o2, rfl⟩ := ints_some h' (by omega)
          have := lib_slices_Equal_int b1 o1 a.length c b2 o2 b.length d a b w (Nat.le_refl _) (Nat.le_refl _) hm hm' (ints_getD h) (ints_getD h')
          rwa [List.take_length, List.take_length] at this
    · obtain rfl : a = [] := List.eq_nil_of_length_eq_zero (by omega)
      obtain rfl : b = [] := List.eq_nil_of_length_eq_zero (by rw [← hl]; rfl)
      refine (lib_slices_Equal_int_empty A B c 0 d w (by omega)).mono ?_
      rintro e w' ⟨rfl, rfl⟩
      exact ⟨rfl, 0, rfl⟩
  · refine (lib_slices_Equal_int_lens A B a.length c b.length d w hl).mono ?_
    rintro e w' ⟨rfl, rfl⟩
    refine ⟨?_, 0, rfl⟩
    rw [show (a == b) = false from beq_eq_false_iff_ne.2 (fun e => hl (by rw [e]))]
/-- A row of numbers of the call's own. -/
def Ints (w : World) (base : Nat) (v : Value) (l : List Int) : Prop := w.ownsRow base 3 1 v l.length (l.map (Value.int .i64))
theorem fSort {w : World} {base : Nat} {v : Value} {l : List Int} (h : Ints w base v l) (hl : l.length ≤ 4000000) :
    Calls Try.prog 70 #[v] w fun e w' => e = .returned (.tuple #[]) ∧ Ints w' base v (l.mergeSort fun x y => decide (x ≤ y)) ∧ w.grownBy w' v.ownBlock := by
  obtain ⟨h1, h2⟩ := id h
  have hz : l.length = 0 → l.mergeSort (fun x y => decide (x ≤ y)) = l := fun h0 => by rw [List.eq_nil_of_length_eq_zero h0]; simp
  rcases h2 with ⟨rfl, hn⟩ | ⟨g, cap, cur, rfl, hbg, hc, r1, r2, r3, r4⟩
  · refine (lib_slices_Sort_int_none none 0 w).mono ?_
    rintro e w' ⟨rfl, rfl⟩
    exact ⟨rfl, by rw [hz hn]; exact h, ⟨rfl, rfl, rfl, Nat.le_refl _, fun _ _ _ => rfl⟩⟩
  · rw [Nat.mul_one] at r4
    have hg : g < w.heap.size := (Array.getElem?_eq_some_iff.1 hc).1
    refine (lib_slices_Sort_int g 0 cap l w (holds_of_blockI hc r4) hg (by omega)).mono ?_
    rintro e w' ⟨rfl, n, os, rfl⟩
    refine ⟨rfl, ?_, grownBy_sortedI _⟩
    have := ownsRow_sortedI (n := n) (os := os) (base := base) (ss := l) (ts := l.mergeSort fun x y => decide (x ≤ y)) (by simp) hbg hc r1 r2 r3
    unfold Ints
    rw [show (l.mergeSort fun x y => decide (x ≤ y)).length = l.length by simp]
    exact this
theorem grown_cells (w : World) (g o q : Nat) (vs : List Value) : w.grownBy ((w.drewN q).setCells g o vs) (some g) := by
  have key : ∀ (vs : List Value) (o : Nat) (w : World), (w.setCells g o vs).os = w.os ∧ (w.setCells g o vs).tape = w.tape ∧ (w.setCells g o vs).output = w.output ∧ (w.setCells g o vs).heap.size = w.heap.size ∧ ∀ k, k ≠ g → (w.setCells g o vs).heap[k]? = w.heap[k]? := by
    intro vs
    induction vs with
    | nil => intro o w; exact ⟨rfl, rfl, rfl, rfl, fun _ _ => rfl⟩
    | cons v r ih =>
      intro o w
      obtain ⟨a, b, c, d, e⟩ := ih (o + 1) (w.setCell ⟨g, o, none⟩ v)
      exact ⟨a, b, c, d.trans (by simp [World.setCell]), fun k hk => (e k hk).trans (Below.heap_setCell w ⟨g, o, none⟩ v k hk)⟩
  obtain ⟨a, b, c, d, e⟩ := key vs o (w.drewN q)
  exact ⟨a, b, c, by rw [d]; exact Nat.le_refl _, fun k hk hne => e k (fun h => hne (by rw [h]))⟩
theorem fCompact {w : World} {base : Nat} {v : Value} {l : List Int} (h : Ints w base v l) (hI : ∀ x ∈ l, IsI x) (hl : l.length ≤ 4000000) :
    Calls Try.prog 71 #[v] w fun e w' => ∃ A c, e = .returned (.slice A (Lib.compact l).length c) ∧ IntsAt w' (.slice A (Lib.compact l).length c) (Lib.compact l) ∧ (∀ b off s, A = some ⟨b, off, s⟩ → base ≤ b) ∧ w.grownBy w' v.ownBlock := by
  obtain ⟨h1, h2⟩ := id h
  have hcl := Lib.compact_length_le l
  have hmem : ∀ x ∈ Lib.compact l, x ∈ l := by
    intro x hx
    unfold Lib.compact Lib.compactUpTo at hx
    obtain ⟨i, hi, rfl⟩ := List.mem_map.1 hx
    have hi' : i < l.length := List.mem_range.1 (List.mem_filter.1 hi).1
    rw [getElem!_pos l.toArray i (by simpa using hi')]
    simp
  rcases h2 with ⟨rfl, hn⟩ | ⟨g, cap, cur, rfl, hbg, hc, r1, r2, r3, r4⟩
  · obtain rfl : l = [] := List.eq_nil_of_length_eq_zero hn
    refine (lib_slices_Compact_int_empty none 0 w).mono ?_
    rintro e w' ⟨rfl, rfl⟩
    exact ⟨none, 0, rfl, ⟨none, 0, rfl, Nat.le_refl _, by omega, (fun x hx => by cases hx), fun h => absurd h (Nat.lt_irrefl _)⟩, (fun b off s e => by cases e), ⟨rfl, rfl, rfl, Nat.le_refl _, fun _ _ _ => rfl⟩⟩
  · have hg : g < w.heap.size := (Array.getElem?_eq_some_iff.1 hc).1
    have hfree : ∀ j, w.frozen? ⟨g, j, none⟩ = false := fun j => At.free (t := 3) (cs := cur) hc j
    have hcell : ∀ j, j < l.length → w.cell? ⟨g, 0 + j, none⟩ = some (.int .i64 (l.getD j 0)) := fun j hj => by
      rw [Nat.zero_add, World.ownsRow.cellAt h j (by omega), List.getElem?_map, List.getD_eq_getElem?_getD, List.getElem?_eq_getElem hj]; rfl
    have hL := lib_slices_Compact_int_cells g 0 l.length cap l w (Nat.le_refl _) (by omega) r1 hcell (fun j _ => hfree _)
    rw [List.take_length] at hL
    refine hL.mono ?_
    rintro e w' ⟨rfl, q, rfl⟩
    refine ⟨_, cap, rfl, ⟨_, cap, rfl, by omega, by unfold maxLen at r2; omega, fun x hx => hI x (hmem x hx), fun h0 => ⟨g, 0, rfl, ?_, fun j hj => ?_⟩⟩, (fun b off s e => by injection e with e; injection e with e1 _ _; rw [← e1]; exact hbg), grown_cells w g 0 q _⟩
    · have := (grown_cells w g 0 q ((Lib.compact l ++ List.replicate (l.length - (Lib.compact l).length) 0).map (Value.int .i64))).size
      omega
    · have ht : (w.drewN q).there g 0 ((Lib.compact l ++ List.replicate (l.length - (Lib.compact l).length) 0).map (Value.int .i64)).length := by
        intro j hj
        have hj' : j < l.length := by simp at hj; omega
        exact ⟨by rw [show (w.drewN q).cell? ⟨g, 0 + j, none⟩ = w.cell? ⟨g, 0 + j, none⟩ from rfl, hcell j hj']; rfl, hfree _⟩
      refine World.rangeAt_setCells_same _ g 0 _ ht j _ ?_
      rw [List.getElem?_map, List.getElem?_append_left hj, List.getElem?_eq_getElem hj, inAt_lt hj]; rfl

end Go.Proofs.Ytehokjaojanieaa
