/- The word at a place, and the word of the text from there on. -/
import Derived.Test.YtkbfoelffeocmaaLexWord
namespace Go.Proofs.Ytkbfoelffeocmaa
open Go.RowKit
set_option linter.unusedSimpArgs false
set_option linter.unusedVariables false

theorem find_drop (s : ByteArray) (p c : Nat) (hp : p ≤ s.size) : ∀ f g i, s.size < p + i + f → s.size < p + i + g → p + findS (s.extract p s.size) c f i = findS s c g (p + i)
  | 0, g, i, hf, hg => by
    have h : s.size ≤ p + i := by omega
    cases g with
    | zero => rfl
    | succ g => rw [find_here (Or.inl h)]; rfl
  | f + 1, 0, i, hf, hg => by
    have h : s.size ≤ p + i := by omega
    rw [find_here (Or.inl (by rw [drop_size]; omega))]; rfl
  | f + 1, g + 1, i, hf, hg => by
    by_cases h : s.size ≤ p + i ∨ bt s (p + i) = c
    · rw [find_here h, find_here (by rw [drop_size, bt_drop s p i hp]; omega)]
    · rw [find_next h, find_next (by rw [drop_size, bt_drop s p i hp]; omega)]
      exact find_drop s p c hp f g (i + 1) (by omega) (by omega)
theorem sub_drop (s : ByteArray) (p a b : Nat) (hp : p ≤ s.size) (hb : p + b ≤ s.size) : (s.extract p s.size).extract a b = s.extract (p + a) (p + b) := by
  apply ByteArray.ext
  rw [ByteArray.data_extract, ByteArray.data_extract, ByteArray.data_extract]
  rw [Array.extract_extract]
  congr 1
  have : s.data.size = s.size := rfl
  omega
theorem braces_drop (s : ByteArray) (p : Nat) (hp : p < s.size) : bracesS (s.extract p s.size) 0 = bracesS s p := by
  unfold bracesS
  have h := find_drop s p 125 (by omega) ((s.extract p s.size).size + 1) (s.size + 1) 1 (by rw [drop_size]; omega) (by omega)
  rw [show 0 + 1 = 1 from rfl, ← h]
  obtain ⟨e, he⟩ : ∃ e, findS (s.extract p s.size) 125 ((s.extract p s.size).size + 1) 1 = e := ⟨_, rfl⟩
  rw [he]
  unfold bracesAt
  rw [drop_size]
  by_cases q : s.size ≤ p + e
  · rw [if_pos (by omega), if_pos q]
  · rw [if_neg (by omega), if_neg q, sub_drop s p (0 + 1) e (by omega) (by omega), show p + (0 + 1) = p + 1 from rfl]
    have e2 : ((e : Nat) : Int) + 1 - ((0 : Nat) : Int) = ((p + e : Nat) : Int) + 1 - (p : Int) := by omega
    rw [e2]
theorem classFrom_drop (s : ByteArray) (p : Nat) (hp : p ≤ s.size) : ∀ f g i c, p + i ≤ s.size → s.size < p + i + f → s.size < p + i + g →
    classFrom (s.extract p s.size) f i c = (classFrom s g (p + i) c).map (fun x => (x.1, x.2 - p)) := by
  intro f
  induction f with
  | zero => intro g i c hi hf hg; omega
  | succ f ih =>
    intro g i c hi hf hg
    obtain ⟨g, rfl⟩ : ∃ k, g = k + 1 := ⟨g - 1, by omega⟩
    have hb0 : bt (s.extract p s.size) i = bt s (p + i) := bt_drop s p i hp
    by_cases he : s.size ≤ p + i ∨ bt s (p + i) = 93
    · rw [classFrom_end he, classFrom_end (by rw [drop_size, hb0]; omega)]
      simp
    · have he' : ¬ ((s.extract p s.size).size ≤ i ∨ bt (s.extract p s.size) i = 93) := by rw [drop_size, hb0]; omega
      obtain ⟨a, n, ha, hal, hnl⟩ := char_nat s (p + i) ownC
      have ha' : charS (s.extract p s.size) i ownC = ((a : Int), (n : Int)) := by rw [char_drop s ownC p i hp]; exact ha
      by_cases hn : n = 0
      · obtain rfl := hn
        rw [classFrom_bad he ha, classFrom_bad he' ha']
        rfl
      · have hin := char_in ha (by omega)
        have hb1 : bt (s.extract p s.size) (i + n) = bt s (p + i + n) := by rw [bt_drop s p (i + n) hp, Nat.add_assoc]
        by_cases hd : p + i + n < s.size ∧ bt s (p + i + n) = 45
        · have hd' : i + n < (s.extract p s.size).size ∧ bt (s.extract p s.size) (i + n) = 45 := by rw [drop_size, hb1]; omega
          obtain ⟨b, m, hb, hbl, hml⟩ := char_nat s (p + i + n + 1) ownC
          have hb' : charS (s.extract p s.size) (i + n + 1) ownC = ((b : Int), (m : Int)) := by rw [char_drop s ownC p (i + n + 1) hp, show p + (i + n + 1) = p + i + n + 1 by omega]; exact hb
          by_cases hm : m = 0 ∨ b < a
          · have hm' : (m : Int) = 0 ∨ (b : Int) < a := by omega
            rw [classFrom_bad2 he ha (by omega) hd hb hm', classFrom_bad2 he' ha' (by omega) hd' hb' hm']
            rfl
          · have hin2 := char_in hb (by omega)
            rw [classFrom_two he ha (by omega) hd hb (by omega) (by omega), classFrom_two he' ha' (by omega) hd' hb' (by omega) (by omega)]
            have := ih g (i + n + 1 + m) (puts c a (b + 1 - a)) (by omega) (by omega) (by omega)
            rw [show p + (i + n + 1 + m) = p + i + n + 1 + m by omega] at this
            exact this
        · have hd' : ¬ (i + n < (s.extract p s.size).size ∧ bt (s.extract p s.size) (i + n) = 45) := by rw [drop_size, hb1]; omega
          rw [classFrom_one he ha (by omega) hd, classFrom_one he' ha' (by omega) hd']
          have := ih g (i + n) (puts c a 1) (by omega) (by omega) (by omega)
          rw [show p + (i + n) = p + i + n by omega] at this
          exact this
theorem classFrom_le (s : ByteArray) : ∀ f i c x j, i ≤ s.size → classFrom s f i c = some (x, j) → i ≤ j ∧ j ≤ s.size := by
  intro f
  induction f with
  | zero => intro i c x j hi h; exact absurd h (by simp [classFrom])
  | succ f ih =>
    intro i c x j hi h
    by_cases he : s.size ≤ i ∨ bt s i = 93
    · rw [classFrom_end he] at h
      have := congrArg Prod.snd (Option.some.inj h)
      dsimp only at this
      omega
    · obtain ⟨a, n, ha, hal, hnl⟩ := char_nat s i ownC
      by_cases hn : n = 0
      · obtain rfl := hn
        rw [classFrom_bad he ha] at h
        exact absurd h (by simp)
      · have hin := char_in ha (by omega)
        by_cases hd : i + n < s.size ∧ bt s (i + n) = 45
        · obtain ⟨b, m, hb, hbl, hml⟩ := char_nat s (i + n + 1) ownC
          by_cases hm : m = 0 ∨ b < a
          · rw [classFrom_bad2 he ha (by omega) hd hb (by omega)] at h
            exact absurd h (by simp)
          · have hin2 := char_in hb (by omega)
            rw [classFrom_two he ha (by omega) hd hb (by omega) (by omega)] at h
            have := ih _ _ _ _ (by omega) h
            omega
        · rw [classFrom_one he ha (by omega) hd] at h
          have := ih _ _ _ _ (by omega) h
          omega
theorem class_drop (s : ByteArray) (p : Nat) (hp : p < s.size) : classS (s.extract p s.size) 0 = classS s p := by
  unfold classS
  have e1 : (0 + 1 < (s.extract p s.size).size ∧ bt (s.extract p s.size) (0 + 1) = 94) = (p + 1 < s.size ∧ bt s (p + 1) = 94) := by
    rw [drop_size, bt_drop s p (0 + 1) (by omega), eq_iff_iff, show p + (0 + 1) = p + 1 from rfl]; omega
  simp only [e1]
  obtain ⟨j, hj, hj1⟩ : ∃ j, (if p + 1 < s.size ∧ bt s (p + 1) = 94 then 0 + 2 else 0 + 1) = j ∧ p + j ≤ s.size := by
    split
    · rename_i q; exact ⟨2, rfl, by omega⟩
    · exact ⟨1, rfl, by omega⟩
  have hj2 : (if p + 1 < s.size ∧ bt s (p + 1) = 94 then p + 2 else p + 1) = p + j := by
    rw [← hj]; split <;> rfl
  rw [hj, hj2, classFrom_drop s p (by omega) ((s.extract p s.size).size + 1) (s.size + 1) j emptyC hj1 (by rw [drop_size]; omega) (by omega)]
  obtain ⟨R, hR⟩ : ∃ R, classFrom s (s.size + 1) (p + j) emptyC = R := ⟨_, rfl⟩
  rw [hR]
  rcases R with _ | ⟨x, k⟩
  · rfl
  · have hk := classFrom_le s _ _ _ _ _ hj1 hR
    dsimp only [Option.map]
    rw [drop_size]
    by_cases q : s.size ≤ k
    · rw [if_pos (by omega), if_pos q]
    · rw [if_neg (by omega), if_neg q]
      have e2 : ((k - p : Nat) : Int) + 1 - ((0 : Nat) : Int) = (k : Int) + 1 - p := by omega
      rw [e2]
theorem open_drop (s : ByteArray) (p : Nat) (hp : p ≤ s.size) : openS (s.extract p s.size) 0 = openS s p := by
  unfold openS
  rw [pre_drop s p hp, pre_drop s p hp, pre_drop s p hp, pre_drop s p hp]
  rfl
theorem dot_is : (St.zero.put 10).not = dotTo 256 := by kernel_rfl
set_option maxRecDepth 20000 in
theorem sign_same : ∀ b : Fin 256, b.val ≠ 40 → lexSignS b.val = signsS (b.val : Int) := by decide
set_option maxRecDepth 20000 in
theorem sign_pos : ∀ b : Fin 256, signsS (b.val : Int) = 0 ∨ 0 < signsS (b.val : Int) := by decide
/-- The words agree: how many bytes they take; and what they are, where one stands. -/
theorem word_drop (s : ByteArray) (p : Nat) (hp : p < s.size) :
    (wordP (s.extract p s.size)).2 = (wordS s p).2 ∧ ((wordS s p).2 ≠ 0 → (wordP (s.extract p s.size)).1 = (wordS s p).1) := by
  have hp' : p ≤ s.size := by omega
  obtain ⟨b, hb⟩ : ∃ b, bt s p = b := ⟨_, rfl⟩
  have hbl : b < 256 := by rw [← hb]; exact bt_lt s p
  have hb0 : bt (s.extract p s.size) 0 = b := by rw [bt_drop s p 0 hp']; exact hb
  have ss := sign_same ⟨b, hbl⟩
  have sp := sign_pos ⟨b, hbl⟩
  dsimp only at ss sp
  unfold wordP wordS
  rw [hb0, hb]
  by_cases b92 : b = 92
  · subst b92
    rw [if_pos rfl, if_neg (by decide), if_neg (by decide), if_neg (by decide), if_neg (by decide), if_neg (by decide)]
    rw [← char_at_esc (own := ownW) (by rw [drop_size]; omega) hb0, char_drop s ownW p 0 hp']
    exact ⟨rfl, fun _ => rfl⟩
  rw [if_neg b92]
  by_cases b91 : b = 91
  · subst b91
    rw [if_pos rfl, if_neg (by decide), if_pos rfl, class_drop s p hp]
    exact ⟨rfl, fun _ => rfl⟩
  rw [if_neg b91]
  by_cases b46 : b = 46
  · subst b46
    rw [if_pos rfl, if_neg (by decide), if_neg (by decide), if_neg (by decide), if_neg (by decide), if_pos rfl, dot_is]
    exact ⟨rfl, fun _ => rfl⟩
  rw [if_neg b46]
  by_cases b123 : b = 123
  · subst b123
    rw [if_pos rfl, if_neg (by decide), if_neg (by decide), if_pos rfl, braces_drop s p hp]
    exact ⟨rfl, fun _ => rfl⟩
  rw [if_neg b123]
  by_cases b40 : b = 40
  · subst b40
    rw [if_pos rfl, if_pos rfl, open_drop s p hp']
    exact ⟨rfl, fun _ => rfl⟩
  rw [if_neg b40, if_neg b40, if_neg b91, if_neg b123]
  by_cases b9 : b = 93 ∨ b = 125
  · rw [if_pos b9]
    have e : charS s p ownW = (0, 0) := char_own hp hb b92 (by rcases b9 with rfl | rfl <;> decide)
    have z : signsS (b : Int) = 0 := by rcases b9 with rfl | rfl <;> decide
    rw [if_neg (by omega), if_neg b46, e]
    exact ⟨rfl, fun x => absurd rfl x⟩
  rw [if_neg b9]
  have ss' := ss b40
  by_cases z : lexSignS b = 0
  · rw [if_pos z, if_neg (by omega), if_neg b46]
    have e : charS s p ownW = ((b : Int), 1) := char_self hp hb b92 (by
      have : inS ownW b = decide (b = 93 ∨ b = 125) := by
        rw [Bool.eq_iff_iff, decide_eq_true_iff]
        show (List.any (List.range 2) (fun i => bt ownW i == b)) = true ↔ _
        rw [show List.range 2 = [0, 1] from rfl]
        simp only [List.any_cons, List.any_nil, show bt ownW 0 = 93 from by decide, show bt ownW 1 = 125 from by decide, Bool.or_false, Bool.or_eq_true, beq_iff_eq]
        omega
      rw [this]; exact decide_eq_false b9)
    rw [e]
    exact ⟨rfl, fun _ => by rw [Int.toNat_natCast]⟩
  · rw [if_neg z, if_pos (by omega), ss']
    exact ⟨rfl, fun _ => rfl⟩
end Go.Proofs.Ytkbfoelffeocmaa
