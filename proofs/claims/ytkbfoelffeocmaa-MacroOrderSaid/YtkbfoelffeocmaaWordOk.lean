/- Words are as words may be: their sets, their numbers, how many. -/
import Derived.Test.YtkbfoelffeocmaaWordsAt
import Derived.Test.YtkbfoelffeocmaaMa
namespace Go.Proofs.Ytkbfoelffeocmaa
open Go.RowKit
set_option linter.unusedSimpArgs false
set_option linter.unusedVariables false

theorem dotTo_ok : ∀ k, (dotTo k).Ok
  | 0 => emptyC_ok
  | k + 1 => by
    unfold dotTo
    split
    · exact dotTo_ok k
    · exact St.put_ok (dotTo_ok k) k
theorem classFrom_ok (s : ByteArray) : ∀ (f i : Nat) (c : St), c.Ok → ∀ x j, classFrom s f i c = some (x, j) → x.Ok
  | 0, _, _, _, _, _, h => by cases h
  | f + 1, i, c, hc, x, j, h => by
    unfold classFrom at h
    split at h
    · injection h with h; injection h with h; subst h; exact hc
    split at h
    · cases h
    split at h
    · split at h
      · cases h
      · exact classFrom_ok s f _ _ (puts_ok hc _ _) x j h
    · exact classFrom_ok s f _ _ (puts_ok hc _ _) x j h
theorem classS_ok (s : ByteArray) (p : Nat) : (classS s p).1.Ok := by
  unfold classS
  split
  · exact emptyC_ok
  · rename_i c j h
    have := classFrom_ok s _ _ _ emptyC_ok c j h
    split
    · exact emptyC_ok
    · dsimp only
      split
      · exact St.not_ok
      · exact this
theorem bounds_num {u : ByteArray} {a b : Int} (h : boundsS u = some (a, b)) : -1 ≤ a ∧ a ≤ 20 ∧ -1 ≤ b ∧ b ≤ 20 := by
  have hc := count_cases
  unfold boundsS boundsAt at h
  have h1 := hc u
  have h2 := hc (u.extract 0 (findS u 44 (u.size + 1) 0))
  have h3 := hc (u.extract (findS u 44 (u.size + 1) 0 + 1) u.size)
  (repeat' split at h) <;> (first | (cases h; done) | (injection h with h; injection h with ha hb; subst ha; subst hb; omega))
def WdOk (x : Wd) : Prop := x.set.Ok ∧ I64 x.lo ∧ I64 x.hi
theorem plain_ok (k : Int) (s : St) (nm : ByteArray) (hs : s.Ok) : WdOk ⟨k, s, nm, 0, 0⟩ := ⟨hs, by unfold I64; dsimp only; omega, by unfold I64; dsimp only; omega⟩
theorem braces_ok (s : ByteArray) (p : Nat) : WdOk (bracesS s p).1 := by
  unfold bracesS bracesAt
  split
  · exact plain_ok _ _ _ emptyC_ok
  split
  · exact plain_ok _ _ _ emptyC_ok
  split
  · exact plain_ok _ _ _ emptyC_ok
  · rename_i a b h
    have := bounds_num h
    exact ⟨emptyC_ok, by unfold I64; dsimp only; omega, by unfold I64; dsimp only; omega⟩
theorem word_ok (s : ByteArray) (p : Nat) : WdOk (wordS s p).1 := by
  unfold wordS
  split
  · unfold openS
    (repeat' split) <;> exact plain_ok _ _ _ emptyC_ok
  split
  · exact plain_ok _ _ _ (classS_ok s p)
  split
  · exact braces_ok s p
  split
  · exact plain_ok _ _ _ emptyC_ok
  split
  · exact plain_ok _ _ _ (dotTo_ok 256)
  · exact plain_ok _ _ _ (St.put_ok emptyC_ok _)
theorem wordsFrom_ok (s : ByteArray) : ∀ (f i : Nat) (y : Wd × Nat), y ∈ (wordsFrom s f i).1 → WdOk y.1
  | 0, _, _, h => absurd h List.not_mem_nil
  | f + 1, i, y, h => by
    unfold wordsFrom at h
    split at h
    · exact absurd h List.not_mem_nil
    split at h
    · exact wordsFrom_ok s f _ y h
    split at h
    · exact absurd h List.not_mem_nil
    · rcases List.mem_cons.1 h with rfl | h
      · exact word_ok s i
      · exact wordsFrom_ok s f _ y h
theorem words_ok (s : ByteArray) (y : Wd × Nat) (h : y ∈ (wordsS s).1) : WdOk y.1 := by
  unfold wordsS at h
  split at h
  · exact absurd h List.not_mem_nil
  split at h
  · exact absurd h List.not_mem_nil
  · exact wordsFrom_ok s _ _ y h
/-- Where words stand, and how many. -/
theorem wordsFrom_at (s : ByteArray) : ∀ (f i : Nat), (wordsFrom s f i).1.length ≤ s.size - i ∧ (∀ y ∈ (wordsFrom s f i).1, y.2 < s.size) ∧ (wordsFrom s f i).2 ≤ s.size
  | 0, i => ⟨Nat.zero_le _, fun y h => absurd h List.not_mem_nil, by show (-1 : Int) ≤ _; omega⟩
  | f + 1, i => by
    unfold wordsFrom
    split
    · exact ⟨Nat.zero_le _, fun y h => absurd h List.not_mem_nil, by show (-1 : Int) ≤ _; omega⟩
    split
    · have := wordsFrom_at s f (i + 1)
      exact ⟨by omega, this.2⟩
    split
    · exact ⟨Nat.zero_le _, fun y h => absurd h List.not_mem_nil, by dsimp only; omega⟩
    · rename_i h1 _ h3
      obtain ⟨x, n, e, hn⟩ := word_nat s i (by omega)
      rw [e] at h3 ⊢
      have hn0 : n ≠ 0 := fun q => h3 (by rw [q]; rfl)
      have := wordsFrom_at s f (i + n)
      dsimp only
      rw [Int.toNat_natCast]
      refine ⟨by rw [List.length_cons]; omega, fun y hy => ?_, this.2.2⟩
      rcases List.mem_cons.1 hy with rfl | hy
      · dsimp only; omega
      · exact this.2.1 y hy
theorem words_at (s : ByteArray) : (wordsS s).1.length ≤ s.size ∧ (∀ y ∈ (wordsS s).1, y.2 < s.size) ∧ 0 ≤ (wordsS s).2.1 ∧ (wordsS s).2.1 ≤ s.size ∧ ((wordsS s).2.2 = 0 ∨ (wordsS s).2.2 = 2 ∨ (10000 < s.size ∧ (wordsS s).2.2 = 3)) := by
  have := wordsFrom_at s (s.size + 1) 0
  unfold wordsS
  split
  · exact ⟨Nat.zero_le _, fun y h => absurd h List.not_mem_nil, Int.le_refl _, by dsimp only; omega, Or.inr (Or.inr ⟨by assumption, rfl⟩)⟩
  split
  · exact ⟨Nat.zero_le _, fun y h => absurd h List.not_mem_nil, by assumption, this.2.2, Or.inr (Or.inl rfl)⟩
  · exact ⟨by have := this.1; dsimp only; omega, this.2.1, Int.le_refl _, by dsimp only; omega, Or.inl rfl⟩
end Go.Proofs.Ytkbfoelffeocmaa
