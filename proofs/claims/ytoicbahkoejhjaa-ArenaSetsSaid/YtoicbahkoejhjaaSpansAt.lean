/- What is claimed of the reference's Spans at patterns of so many levels; small facts for its walk. -/
import Derived.Test.YtoicbahkoejhjaaProg
import Derived.Test.YtoicbahkoejhjaaWords
import Derived.Test.YtoicbahkoejhjaaCl
import Derived.Test.YtoicbahkoejhjaaRow
import Derived.Test.YtoicbahkoejhjaaTr
import Derived.Test.YtoicbahkoejhjaaFormed
import Derived.Test.YtoicbahkoejhjaaTable
import Derived.Test.YtoicbahkoejhjaaTabs
namespace Go.Proofs.Ytoicbahkoejhjaa
open Go.RowKit

/-- No node has more than 2000 parts. -/
def slimS : Nat → Tr → Prop
  | 0, _ => True
  | k + 1, t => t.parts.length ≤ 2000 ∧ ∀ p ∈ t.parts, slimS k p
theorem info_table : (Try.prog.info? 47).map (fun i => (i.zero, i.size, i.bytes)) = some (some (.slice none 0 0), 1, 24) := by kernel_rfl
theorem formed_part {k j : Nat} {t : Tr} (h : formedS (k + 1) t = true) (hj : j < t.parts.length) : formedS k t.parts[j] = true := by
  have h' : (ownF t && t.parts.all (formedS k)) = true := h
  rw [Bool.and_eq_true] at h'
  exact List.all_eq_true.1 h'.2 _ (List.getElem_mem hj)
theorem formed_own {k : Nat} {t : Tr} (h : formedS (k + 1) t = true) : ownF t = true := by
  have h' : (ownF t && t.parts.all (formedS k)) = true := h
  rw [Bool.and_eq_true] at h'
  exact h'.1
theorem formed_one {k : Nat} {t : Tr} (h : formedS (k + 1) t = true) (hk : t.kind = 6 ∨ t.kind = 7 ∨ t.kind = 8 ∨ t.kind = 9) : t.parts.length = 1 := by
  have q := (of_decide_eq_true (formed_own h)).2.1
  rw [cnt_one hk] at q
  omega
theorem formed_times {k : Nat} {t : Tr} (h : formedS (k + 1) t = true) (hk : t.kind = 7) : timesF t := (of_decide_eq_true (formed_own h)).2.2.2.2.2 hk
theorem headD_get {α : Type} {d : α} (xs : List α) (h : 0 < xs.length := by simp) : xs.headD d = xs[0] := by cases xs with | nil => simp at h | cons x xs => rfl
theorem At.tr_cells {w : World} {g : Nat} {y : TypeId} {t : Tr} (h : At w g y t.cs.toArray) : w.cell? ⟨g, 0, none⟩ = some (.int .i64 t.kind) ∧ w.cell? ⟨g, 1, none⟩ = some (.int .u64 t.set.w0) ∧ w.cell? ⟨g, 2, none⟩ = some (.int .u64 t.set.w1) ∧ w.cell? ⟨g, 3, none⟩ = some (.int .u64 t.set.w2) ∧ w.cell? ⟨g, 4, none⟩ = some (.int .u64 t.set.w3) ∧ w.cell? ⟨g, 5, none⟩ = some (.slice t.addr t.n t.cap) ∧ w.cell? ⟨g, 6, none⟩ = some (.int .i64 t.lo) ∧ w.cell? ⟨g, 7, none⟩ = some (.int .i64 t.hi) ∧ w.cell? ⟨g, 8, none⟩ = some (.bool t.neg) :=
  ⟨At.cell h 0, At.cell h 1, At.cell h 2, At.cell h 3, At.cell h 4, At.cell h 5, At.cell h 6, At.cell h 7, At.cell h 8⟩
/-- One cell of each row at most: the rows below i stand. -/
def diagTo (F : Nat → Nat → Bool) (i i' j' : Nat) : Bool := if i' < i then F i' j' else false
theorem diagTo_zero (F : Nat → Nat → Bool) (i' j' : Nat) : diagTo F 0 i' j' = noF i' j' := by unfold diagTo; rw [if_neg (Nat.not_lt_zero _)]; rfl
theorem diagTo_step {F : Nat → Nat → Bool} {i c : Nat} {v : Bool} (hF : ∀ j, j ≠ c → F i j = false) (hv : v = F i c) (i' j' : Nat) : (if i' = i ∧ j' = c then v else diagTo F i i' j') = diagTo F (i + 1) i' j' := by
  by_cases e : i' = i ∧ j' = c
  · obtain ⟨rfl, rfl⟩ := e
    rw [if_pos ⟨rfl, rfl⟩, hv]
    unfold diagTo
    rw [if_pos (by omega)]
  · rw [if_neg e]
    unfold diagTo
    by_cases c1 : i' < i
    · rw [if_pos c1, if_pos (by omega)]
    · rw [if_neg c1]
      by_cases c2 : i' = i
      · subst c2
        rw [if_pos (by omega), hF j' (fun q => e ⟨rfl, q⟩)]
      · rw [if_neg (by omega)]
theorem diagTo_end {F : Nat → Nat → Bool} {m i' j' : Nat} (h : i' < m) : diagTo F m i' j' = F i' j' := by unfold diagTo; rw [if_pos h]
theorem begin_off {l : List Nat} {i j : Nat} (h : j ≠ i) : beginF l i j = false := by unfold beginF; rw [decide_eq_false (fun q => h q.symm), Bool.false_and]
theorem end_off {l : List Nat} {i j : Nat} (h : j ≠ i) : endF l i j = false := by unfold endF; rw [decide_eq_false (fun q => h q.symm), Bool.false_and]
theorem byte_off {s : St} {l : List Nat} {i j : Nat} (h : j ≠ i + 1) : byteF s l i j = false := by unfold byteF; rw [decide_eq_false (fun q => h q.1), Bool.false_and]
theorem begin_0 {l : List Nat} : true = beginF l 0 0 := rfl
theorem begin_at {l : List Nat} {i m x : Nat} {v : Bool} (hm : i = m + 1) (hx : (l[m]?).getD 0 = x) (hv : v = decide (x = 10)) : v = beginF l i i := by
  subst hm; unfold beginF; rw [decide_eq_true rfl, Bool.true_and, decide_eq_false (by omega), Bool.false_or, show m + 1 - 1 = m from rfl, hx]; exact hv
theorem end_last {l : List Nat} {i : Nat} (h : i = l.length) : true = endF l i i := by unfold endF; rw [decide_eq_true rfl, decide_eq_true h]; rfl
theorem end_at {l : List Nat} {i x : Nat} {v : Bool} (hi : i < l.length) (hx : (l[i]?).getD 0 = x) (hv : v = decide (x = 10)) : v = endF l i i := by
  unfold endF; rw [decide_eq_true rfl, Bool.true_and, decide_eq_false (by omega), Bool.false_or, hx]; exact hv
theorem byte_at {s : St} {l : List Nat} {i x : Nat} {v : Bool} (hi : i < l.length) (hx : (l[i]?).getD 0 = x) (hv : v = s.has x) : v = byteF s l i (i + 1) := by
  unfold byteF; rw [decide_eq_true ⟨rfl, hi⟩, Bool.true_and, hx]; exact hv
theorem byte_last {s : St} {l : List Nat} {i j : Nat} (h : l.length ≤ i) : byteF s l i j = false := by unfold byteF; rw [decide_eq_false (fun q => by omega), Bool.false_and]
theorem at_types {w : World} {g h : Nat} {s t : TypeId} {cs ds : Array Value} (hg : At w g s cs) (hh : At w h t ds) (hne : s ≠ t) : g ≠ h := fun e => by
  subst e
  unfold At at hg hh
  rw [hg] at hh
  injection hh with hh
  injection hh with _ h2 _
  exact hne h2
theorem At.grown' {w w' : World} {g : Nat} {t : TypeId} {cs : Array Value} {row : Option Nat} (h : At w g t cs) (hg : w.grownBy w' row) (hr : some g ≠ row) : At w' g t cs := (hg.block g h.lt hr).trans h
theorem below_grown' {W w w' : World} {B : Nat} {row : Option Nat} (h : Below B W w) (hs : B ≤ w.heap.size) (hg : w.grownBy w' row) (hr : ∀ k, row = some k → B ≤ k) : Below B W w' :=
  ⟨hg.os.trans h.os, hg.tape.trans h.tape, hg.output.trans h.output, Nat.le_trans h.size hg.size, fun i hi => (hg.block i (by omega) (fun e => by have := hr i e.symm; omega)).trans (h.block i hi)⟩
theorem refBlankI (n : Nat) (hn : n ≤ 1000) (x : Int) (hx : x = (n : Int)) (w : World) : Calls Try.prog 28 #[.int .i64 x] w (Tabled w n noF) := by
  subst hx
  refine (refBlank n hn w).mono ?_
  rintro e w' ⟨rfl, h, hb⟩
  exact ⟨_, _, rfl, h, hb⟩
theorem refOneI (n : Nat) (hn : n ≤ 1000) (x : Int) (hx : x = (n : Int)) (w : World) : Calls Try.prog 29 #[.int .i64 x] w (Tabled w n eqF) := by
  subst hx
  exact refOne n hn w
section
variable {k n : Nat} {l : List Nat} {t : Tr}
theorem spans_0 (hk : t.kind = 0) (_ : n = l.length + 1) : spansS l (k + 1) t = noF := by unfold spansS; simp [hk]
theorem spans_1 (hk : t.kind = 1) (_ : n = l.length + 1) : spansS l (k + 1) t = eqF := by unfold spansS; simp [hk]
theorem spans_2 (hk : t.kind = 2) (_ : n = l.length + 1) : spansS l (k + 1) t = byteF t.set l := by unfold spansS; simp [hk]
theorem spans_3 (hk : t.kind = 3) (hn : n = l.length + 1) : spansS l (k + 1) t = (t.parts.map (spansS l k)).foldl (fun f g => thenF f g n) eqF := by subst hn; unfold spansS; simp [hk]
theorem spans_4 (hk : t.kind = 4) (_ : n = l.length + 1) : spansS l (k + 1) t = (t.parts.map (spansS l k)).foldl (fun f g i j => f i j || g i j) noF := by unfold spansS; simp [hk]
theorem spans_5 (hk : t.kind = 5) (_ : n = l.length + 1) : spansS l (k + 1) t = (t.parts.map (spansS l k)).foldl (fun f g i j => f i j && g i j) (otherF noF) := by unfold spansS; simp [hk]
theorem spans_6 (hk : t.kind = 6) (_ : n = l.length + 1) : spansS l (k + 1) t = otherF ((t.parts.map (spansS l k)).headD noF) := by unfold spansS; simp [hk]
theorem spans_7 (hk : t.kind = 7) (hn : n = l.length + 1) : spansS l (k + 1) t = timesT ((t.parts.map (spansS l k)).headD noF) n t.lo.toNat t.hi := by subst hn; unfold spansS; simp [hk]
theorem spans_8 (hk : t.kind = 8) (hn : n = l.length + 1) : spansS l (k + 1) t = lookF ((t.parts.map (spansS l k)).headD noF) n false t.neg := by subst hn; unfold spansS; simp [hk]
theorem spans_9 (hk : t.kind = 9) (hn : n = l.length + 1) : spansS l (k + 1) t = lookF ((t.parts.map (spansS l k)).headD noF) n true t.neg := by subst hn; unfold spansS; simp [hk]
theorem spans_10 (hk : t.kind = 10) (_ : n = l.length + 1) : spansS l (k + 1) t = beginF l := by unfold spansS; simp [hk]
theorem spans_11 (hk : t.kind = 11) (_ : n = l.length + 1) : spansS l (k + 1) t = endF l := by unfold spansS; simp [hk]
end

end Go.Proofs.Ytoicbahkoejhjaa
