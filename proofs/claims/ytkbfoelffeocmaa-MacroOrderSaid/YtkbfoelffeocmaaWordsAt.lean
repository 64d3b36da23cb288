/- The words of a text; rows of words. No program is walked here. -/
import Derived.Test.YtkbfoelffeocmaaWordDrop
import Derived.Test.YtkbfoelffeocmaaOpenIs
import Derived.Laws.OwnMore
import Derived.Deep.AppendLies
namespace Go.Proofs.Ytkbfoelffeocmaa
open Go.RowKit
set_option linter.unusedVariables false

def blankT : ByteArray := { data := #[32, 10, 9, 13] }
set_option maxRecDepth 20000 in
theorem blank_in' : ∀ b : Fin 256, inS blankT b.val = blankS b.val := by decide
theorem blank_in (b : Nat) (hb : b < 256) : inS blankT b = blankS b := blank_in' ⟨b, hb⟩
/-- The words of a text from a place on, and the first place at which none stands; -1: none such. -/
def wordsFrom (s : ByteArray) : Nat → Nat → List (Wd × Nat) × Int
  | 0, _ => ([], -1)
  | f + 1, i =>
    if s.size ≤ i then ([], -1)
    else if blankS (bt s i) = true then wordsFrom s f (i + 1)
    else if (wordS s i).2 = 0 then ([], i)
    else (((wordS s i).1, i) :: (wordsFrom s f (i + (wordS s i).2.toNat)).1, (wordsFrom s f (i + (wordS s i).2.toNat)).2)
theorem words_end {s : ByteArray} {f i : Nat} (h : s.size ≤ i) : wordsFrom s (f + 1) i = ([], -1) := by rw [wordsFrom, if_pos h]
theorem words_blank {s : ByteArray} {f i : Nat} (h : ¬ s.size ≤ i) (hb : blankS (bt s i) = true) : wordsFrom s (f + 1) i = wordsFrom s f (i + 1) := by rw [wordsFrom, if_neg h, if_pos hb]
theorem words_bad {s : ByteArray} {f i : Nat} {x : Wd} (h : ¬ s.size ≤ i) (hb : blankS (bt s i) = false) (e : wordS s i = (x, 0)) : wordsFrom s (f + 1) i = ([], (i : Int)) := by
  rw [wordsFrom, if_neg h, if_neg (by rw [hb]; exact Bool.false_ne_true), e, if_pos rfl]
theorem words_one {s : ByteArray} {f i n : Nat} {x : Wd} (h : ¬ s.size ≤ i) (hb : blankS (bt s i) = false) (e : wordS s i = (x, (n : Int))) (hn : 0 < n) :
    wordsFrom s (f + 1) i = ((x, i) :: (wordsFrom s f (i + n)).1, (wordsFrom s f (i + n)).2) := by
  rw [wordsFrom, if_neg h, if_neg (by rw [hb]; exact Bool.false_ne_true), e, if_neg (by dsimp only; omega)]
  rfl
/-- What Words answers: the words, a place, an error's number. -/
def wordsS (s : ByteArray) : List (Wd × Nat) × Int × Int :=
  if 10000 < s.size then ([], 0, 3)
  else if 0 ≤ (wordsFrom s (s.size + 1) 0).2 then ([], (wordsFrom s (s.size + 1) 0).2, 2)
  else ((wordsFrom s (s.size + 1) 0).1, 0, 0)
theorem word_nat (s : ByteArray) (p : Nat) (hp : p < s.size) : ∃ (x : Wd) (n : Nat), wordS s p = (x, (n : Int)) ∧ p + n ≤ s.size := by
  have pack : ∀ y : Wd × Int, 0 ≤ y.2 → (p : Int) + y.2 ≤ s.size → ∃ (x : Wd) (n : Nat), y = (x, (n : Int)) ∧ p + n ≤ s.size := fun y h1 h2 => ⟨y.1, y.2.toNat, by rw [Int.toNat_of_nonneg h1], by omega⟩
  unfold wordS
  split
  · refine pack _ ?_ ?_ <;> (rw [open_is]; (repeat' split) <;> (dsimp only; omega))
  split
  · refine pack _ ?_ ?_ <;> dsimp only
    all_goals
      unfold classS
      have hle := fun x j h => classFrom_le s (s.size + 1) (if p + 1 < s.size ∧ bt s (p + 1) = 94 then p + 2 else p + 1) emptyC x j (by split <;> omega) h
      split
      · dsimp only; omega
      · rename_i x j h
        have := hle _ _ h
        split
        · dsimp only; omega
        · dsimp only
          split at this <;> omega
  split
  · have hl := find_le s 125 (s.size + 1) (p + 1)
    refine pack _ ?_ ?_ <;> unfold bracesS bracesAt
    all_goals
      split
      · dsimp only; omega
      split
      · dsimp only; omega
      split <;> (dsimp only; omega)
  split
  · exact pack _ (by dsimp only; omega) (by dsimp only; omega)
  split
  · exact pack _ (by dsimp only; omega) (by dsimp only; omega)
  · obtain ⟨a, n, ha, hal, hnl⟩ := char_nat s p ownW
    rw [ha]
    by_cases hn : n = 0
    · exact pack _ (by dsimp only; omega) (by dsimp only; omega)
    · have := char_in ha (by omega)
      exact pack _ (by dsimp only; omega) (by dsimp only; omega)
def wl (l : List (Wd × Nat)) : List Value := l.flatMap (fun x => (wdCells x.1 x.2).toList)
theorem wl_snoc (l : List (Wd × Nat)) (x : Wd) (i : Nat) : wl l ++ [.int .i64 x.kind, .int .i64 i, .int .u64 x.set.w0, .int .u64 x.set.w1, .int .u64 x.set.w2, .int .u64 x.set.w3, .string x.name, .int .i64 x.lo, .int .i64 x.hi] = wl (l ++ [(x, i)]) := by
  unfold wl
  rw [List.flatMap_append]
  rfl
/-- v is a slice of the call's own (in a block from base on) whose elements are these words. -/
def Wds (w : World) (base : Nat) (v : Value) (l : List (Wd × Nat)) : Prop := w.ownsRow base 57 9 v l.length (wl l)
section
variable {w w' : World} {base : Nat} {v : Value} {l : List (Wd × Nat)}
theorem Wds.nil (w : World) (base : Nat) : Wds w base (.slice none 0 0) [] := World.ownsRow_nil w base _ 9
theorem wds_grown {w w' : World} (hb : Below w.heap.size w w') (row : Option Nat) : w.grownBy w' row := ⟨hb.os, hb.tape, hb.output, hb.size, fun i hi _ => hb.block i hi⟩
theorem Wds.grown {row : Option Nat} (h : Wds w base v l) (hg : w.grownBy w' row) (hr : v.ownBlock = none ∨ v.ownBlock ≠ row) : Wds w' base v l := World.ownsRow.kept h hg hr
theorem Wds.next (h : Wds w base v l) (hb : Below w.heap.size w w') : Wds w' base v l :=
  World.ownsRow.kept (row := none) h (wds_grown hb none) (by cases hv : v.ownBlock <;> simp)
theorem Wds.alloc (h : Wds w base v l) (o : Obj) : Wds (w.alloc o) base v l := World.ownsRow.alloc h o
theorem Wds.len (h : Wds w base v l) : ∃ A cap, v = .slice A l.length cap := by
  rcases h.2 with ⟨rfl, hn⟩ | ⟨g, cap, cur, rfl, _⟩
  · exact ⟨none, 0, by rw [hn]⟩
  · exact ⟨_, _, rfl⟩
theorem Wds.low (h : Wds w base v l) : ∀ g, v.ownBlock = some g → base ≤ g := fun g hg => (World.ownsRow.lt h g hg).1
theorem Wds.push {x : Wd} {i : Nat} (h : w.ownsRow base 57 9 v (l.length + 1) (wl l ++ [.int .i64 x.kind, .int .i64 i, .int .u64 x.set.w0, .int .u64 x.set.w1, .int .u64 x.set.w2, .int .u64 x.set.w3, .string x.name, .int .i64 x.lo, .int .i64 x.hi])) : Wds w base v (l ++ [(x, i)]) := by
  unfold Wds
  rw [List.length_append, ← wl_snoc]
  exact h
end
theorem news_two (w : World) (o : Obj) (cs : Array Value) (t : TypeId) : ∀ j u, cs.toList[j]? = some u → ((w.alloc o).alloc (.cells cs t)).cell? ((⟨w.heap.size + 1, 0, none⟩ : Addr).add j) = some u := by
  have h := At.new (w.alloc o) t cs
  rw [World.size_alloc] at h
  exact World.news_of_block h
theorem below_grown4 {B : Nat} {W w w4 : World} {o o' : Obj} {v : Value} (h : Below B W w) (hB : B ≤ w.heap.size) (hg : ((w.alloc o).alloc o').grownBy w4 v.ownBlock) (hr : ∀ k, v.ownBlock = some k → B ≤ k) : Below B W w4 := by
  exact Below.grown ((h.alloc hB o).alloc (by simp; omega) o') hg (by simp; omega) hr
theorem info_word : (Try.prog.info? 57).map (fun i => (i.zero, i.size, i.bytes)) = some (some (.agg #[.int .i64 0, .int .i64 0, .int .u64 0, .int .u64 0, .int .u64 0, .int .u64 0, .string { data := #[] }, .int .i64 0, .int .i64 0]), 9, 80) := by kernel_rfl
theorem info_word' : ∃ i, Try.prog.info? 57 = some i ∧ i.zero = some (.agg #[.int .i64 0, .int .i64 0, .int .u64 0, .int .u64 0, .int .u64 0, .int .u64 0, .string { data := #[] }, .int .i64 0, .int .i64 0]) ∧ i.size = 9 ∧ i.bytes = 80 := by
  have h := info_word
  rcases hi : Try.prog.info? 57 with _ | i
  · rw [hi] at h; cases h
  · rw [hi] at h
    injection h with h
    exact ⟨i, rfl, congrArg Prod.fst h, congrArg (·.2.1) h, congrArg (·.2.2) h⟩
/-- What a call of Words answers, and what it does to memory. -/
def WordsRes (s : ByteArray) (w : World) (e : Ending) (w' : World) : Prop :=
  ∃ (v : Value) (l : List (Wd × Nat)) (p q : Int), wordsS s = (l, p, q) ∧ e = .returned (.tuple #[v, .int .i64 p, .int .i64 q]) ∧ Wds w' w.heap.size v l ∧ Below w.heap.size w w'
theorem wl_at (l : List (Wd × Nat)) : ∀ (j i : Nat) (h : j < l.length), i < 9 → (wl l)[j * 9 + i]? = (wdCells l[j].1 l[j].2)[i]? := by
  unfold wl
  induction l with
  | nil => intro j i h; exact absurd h (Nat.not_lt_zero _)
  | cons t r ih =>
    intro j i h hi
    have hl : (wdCells t.1 t.2).toList.length = 9 := rfl
    rw [List.flatMap_cons]
    cases j with
    | zero => rw [Nat.zero_mul, Nat.zero_add, List.getElem?_append_left (by rw [hl]; exact hi)]; exact Array.getElem?_toList
    | succ j =>
      rw [List.getElem?_append_right (by rw [hl]; omega), hl, show (j + 1) * 9 + i - 9 = j * 9 + i by omega, ih j i (by simpa using h) hi]
      rfl
end Go.Proofs.Ytkbfoelffeocmaa
