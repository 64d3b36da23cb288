/- The words of a text, a blank, and a second text. No program is walked here. -/
import Derived.Test.YtdcldhkpmihahaaWordsAt
namespace Go.Proofs.Ytdcldhkpmihahaa
open Go.RowKit
set_option linter.unusedVariables false
set_option linter.unusedSimpArgs false

/-- X is s, a blank, t. -/
structure Joined (s t X : ByteArray) : Prop where
  size : X.size = s.size + 1 + t.size
  left : ∀ i, i < s.size → bt X i = bt s i
  mid : bt X s.size = 32
  cut : ∀ a b, b ≤ s.size → X.extract a b = s.extract a b
  right : ∀ p, p ≤ t.size → X.extract (s.size + 1 + p) X.size = t.extract p t.size
section
variable {s t X : ByteArray}
theorem join_char (h : Joined s t X) (p : Nat) (own : ByteArray) (hn : (charS s p own).2 ≠ 0) : charS X p own = charS s p own := by
  have hsz := h.size
  unfold charS at hn ⊢
  by_cases h1 : s.size ≤ p
  · rw [if_pos h1] at hn; exact absurd rfl hn
  rw [if_neg h1] at hn ⊢
  rw [if_neg (show ¬ X.size ≤ p by omega), h.left p (by omega)]
  by_cases h2 : bt s p ≠ 92
  · rw [if_pos h2, if_pos h2]
  rw [if_neg h2] at hn ⊢
  rw [if_neg h2]
  by_cases h3 : s.size ≤ p + 1
  · rw [if_pos h3] at hn; exact absurd rfl hn
  rw [if_neg h3] at hn ⊢
  rw [if_neg (show ¬ X.size ≤ p + 1 by omega), h.left (p + 1) (by omega)]
  by_cases h4 : bt s (p + 1) = 120
  · rw [h4] at hn ⊢
    rw [esc_hex] at hn ⊢
    rw [esc_hex]
    by_cases h5 : p + 3 < s.size ∧ 0 ≤ valueS (bt s (p + 2)) ∧ 0 ≤ valueS (bt s (p + 3))
    · rw [h.left (p + 2) (by omega), h.left (p + 3) (by omega), if_pos h5, if_pos ⟨by omega, h5.2⟩]
    · rw [if_neg h5] at hn; exact absurd rfl hn
  · unfold escS
    (repeat' split) <;> first | rfl | (exact absurd ‹_› h4)
theorem join_classFrom (h : Joined s t X) : ∀ f g i c x j, i ≤ s.size → classFrom s f i c = some (x, j) → j < s.size → X.size < i + g → classFrom X g i c = some (x, j) := by
  intro f
  have hsz := h.size
  induction f with
  | zero => intro g i c x j hi hc; exact absurd hc (by simp [classFrom])
  | succ f ih =>
    intro g i c x j hi hc hj hg
    obtain ⟨g, rfl⟩ : ∃ k, g = k + 1 := ⟨g - 1, by omega⟩
    by_cases he : s.size ≤ i ∨ bt s i = 93
    · rw [classFrom_end he] at hc
      have e := Option.some.inj hc
      have e1 : i = j := congrArg Prod.snd e
      rw [classFrom_end (Or.inr (by rw [h.left i (by omega)]; omega)), e]
    · have he' : ¬ (X.size ≤ i ∨ bt X i = 93) := by rw [h.left i (by omega)]; omega
      obtain ⟨a, n, ha, hal, hnl⟩ := char_nat s i ownC
      by_cases hn : n = 0
      · obtain rfl := hn
        rw [classFrom_bad he ha] at hc
        exact absurd hc (by simp)
      · have hin := char_in ha (by omega)
        have ha' : charS X i ownC = ((a : Int), (n : Int)) := by rw [join_char h i ownC (by rw [ha]; dsimp only; omega)]; exact ha
        by_cases hd : i + n < s.size ∧ bt s (i + n) = 45
        · obtain ⟨b, m, hb, hbl, hml⟩ := char_nat s (i + n + 1) ownC
          by_cases hm : m = 0 ∨ b < a
          · rw [classFrom_bad2 he ha (by omega) hd hb (by omega)] at hc
            exact absurd hc (by simp)
          · have hin2 := char_in hb (by omega)
            have hb' : charS X (i + n + 1) ownC = ((b : Int), (m : Int)) := by rw [join_char h (i + n + 1) ownC (by rw [hb]; dsimp only; omega)]; exact hb
            rw [classFrom_two he ha (by omega) hd hb (by omega) (by omega)] at hc
            rw [classFrom_two he' ha' (by omega) ⟨by omega, by rw [h.left _ hd.1]; exact hd.2⟩ hb' (by omega) (by omega)]
            exact ih g _ _ x j (by omega) hc hj (by omega)
        · rw [classFrom_one he ha (by omega) hd] at hc
          have hlt : i + n < s.size := by
            have := classFrom_le s f (i + n) _ x j (by omega) hc
            omega
          rw [classFrom_one he' ha' (by omega) (by rw [h.left _ hlt]; omega)]
          exact ih g _ _ x j (by omega) hc hj (by omega)
theorem join_class (h : Joined s t X) (p : Nat) (hp : p < s.size) (hn : (classS s p).2 ≠ 0) : classS X p = classS s p := by
  have hsz := h.size
  by_cases hv : p + 1 < s.size ∧ bt s (p + 1) = 94
  · have hv' : p + 1 < X.size ∧ bt X (p + 1) = 94 := ⟨by omega, by rw [h.left _ hv.1]; exact hv.2⟩
    rcases hR : classFrom s (s.size + 1) (p + 2) emptyC with _ | ⟨c, j⟩
    · rw [cls_bad (by rw [if_pos hv]) hR] at hn; exact absurd rfl hn
    · by_cases hj : s.size ≤ j
      · rw [cls_past (by rw [if_pos hv]) hR hj] at hn; exact absurd rfl hn
      · rw [cls_not hv hR hj, cls_not hv' (join_classFrom h _ (X.size + 1) _ _ c j (by omega) hR (by omega) (by omega)) (by omega)]
  · rcases hR : classFrom s (s.size + 1) (p + 1) emptyC with _ | ⟨c, j⟩
    · rw [cls_bad (by rw [if_neg hv]) hR] at hn; exact absurd rfl hn
    · by_cases hj : s.size ≤ j
      · rw [cls_past (by rw [if_neg hv]) hR hj] at hn; exact absurd rfl hn
      · have hle := classFrom_le s _ _ _ _ _ (by omega) hR
        have hv' : ¬ (p + 1 < X.size ∧ bt X (p + 1) = 94) := by rw [h.left (p + 1) (by omega)]; omega
        rw [cls_is hv hR hj, cls_is hv' (join_classFrom h _ (X.size + 1) _ _ c j (by omega) hR (by omega) (by omega)) (by omega)]
theorem join_find (h : Joined s t X) (c : Nat) : ∀ f g i, findS s c f i < s.size → s.size < i + f → X.size < i + g → findS X c g i = findS s c f i := by
  intro f
  have hsz := h.size
  induction f with
  | zero => intro g i h1 h2 h3; unfold findS at h1; omega
  | succ f ih =>
    intro g i h1 h2 h3
    have hle := find_le s c (f + 1) i
    obtain ⟨g, rfl⟩ : ∃ k, g = k + 1 := ⟨g - 1, by omega⟩
    by_cases hh : s.size ≤ i ∨ bt s i = c
    · rw [find_here hh]
      exact find_here (Or.inr (by rw [h.left i (by omega)]; omega))
    · rw [find_next hh] at h1 ⊢
      rw [find_next (by rw [h.left i (by omega)]; omega)]
      exact ih g (i + 1) h1 (by omega) (by omega)
theorem join_braces (h : Joined s t X) (p : Nat) (hp : p < s.size) (hn : (bracesS s p).2 ≠ 0) : bracesS X p = bracesS s p := by
  have hsz := h.size
  have he : findS s 125 (s.size + 1) (p + 1) < s.size := by
    by_cases q : s.size ≤ findS s 125 (s.size + 1) (p + 1)
    · unfold bracesS at hn; rw [braces_past q] at hn; exact absurd rfl hn
    · omega
  unfold bracesS
  rw [join_find h 125 (s.size + 1) (X.size + 1) (p + 1) he (by omega) (by omega)]
  unfold bracesAt
  rw [if_neg (show ¬ s.size ≤ _ by omega), if_neg (show ¬ X.size ≤ _ by omega), h.cut _ _ (by omega)]
theorem join_pre (h : Joined s t X) (q : List UInt8) : (∀ a ∈ q, a.toNat ≠ 32) → ∀ i, i ≤ s.size → preS X i q = preS s i q := by
  have hsz := h.size
  induction q with
  | nil => intro _ i _; rfl
  | cons a q ih =>
    intro ha i hi
    unfold preS
    by_cases hlt : i < s.size
    · rw [h.left i hlt, ih (fun b hb => ha b (List.mem_cons_of_mem _ hb)) (i + 1) (by omega)]
      have e : (i < X.size ∧ bt s i = a.toNat) = (i < s.size ∧ bt s i = a.toNat) := by rw [eq_iff_iff]; omega
      simp only [e]
    · obtain rfl : i = s.size := by omega
      have := ha a (List.mem_cons_self ..)
      rw [h.mid, decide_eq_false (by omega), decide_eq_false (by omega), Bool.false_and, Bool.false_and]
theorem join_open (h : Joined s t X) (p : Nat) (hp : p ≤ s.size) : openS X p = openS s p := by
  unfold openS
  rw [join_pre h _ (by decide) p hp, join_pre h _ (by decide) p hp, join_pre h _ (by decide) p hp, join_pre h _ (by decide) p hp]
theorem join_word (h : Joined s t X) (p : Nat) (hp : p < s.size) (hn : (wordS s p).2 ≠ 0) : wordS X p = wordS s p := by
  unfold wordS at hn ⊢
  rw [h.left p hp]
  by_cases h1 : bt s p = 40
  · rw [if_pos h1, if_pos h1]; exact join_open h p (by omega)
  rw [if_neg h1] at hn ⊢
  rw [if_neg h1]
  by_cases h2 : bt s p = 91
  · rw [if_pos h2] at hn ⊢
    rw [if_pos h2, join_class h p hp hn]
  rw [if_neg h2] at hn ⊢
  rw [if_neg h2]
  by_cases h3 : bt s p = 123
  · rw [if_pos h3] at hn ⊢
    rw [if_pos h3, join_braces h p hp hn]
  rw [if_neg h3] at hn ⊢
  rw [if_neg h3]
  by_cases h4 : 0 < signsS (bt s p)
  · rw [if_pos h4, if_pos h4]
  rw [if_neg h4] at hn ⊢
  rw [if_neg h4]
  by_cases h5 : bt s p = 46
  · rw [if_pos h5, if_pos h5]
  rw [if_neg h5] at hn ⊢
  rw [if_neg h5, join_char h p ownW hn]
theorem right_byte (h : Joined s t X) (i : Nat) (hi : i < t.size) : bt X (s.size + 1 + i) = bt t i := by
  have e := h.right i (by omega)
  have hsz := h.size
  have h1 := bt_drop X (s.size + 1 + i) 0 (by omega)
  have h2 := bt_drop t i 0 (by omega)
  rw [e] at h1
  rw [h1] at h2
  simpa using h2
theorem right_word (h : Joined s t X) (p : Nat) (hp : p < t.size) : (wordS X (s.size + 1 + p)).2 = (wordS t p).2 ∧ ((wordS t p).2 ≠ 0 → (wordS X (s.size + 1 + p)).1 = (wordS t p).1) := by
  have hsz := h.size
  obtain ⟨a1, a2⟩ := word_drop X (s.size + 1 + p) (by omega)
  obtain ⟨b1, b2⟩ := word_drop t p hp
  rw [h.right p (by omega)] at a1 a2
  exact ⟨a1.symm.trans b1, fun q => (a2 (by rw [← a1, b1]; exact q)).symm.trans (b2 q)⟩
def shiftW (k : Nat) (l : List (Wd × Nat)) : List (Wd × Nat) := l.map (fun x => (x.1, k + x.2))
theorem words_right (h : Joined s t X) : ∀ f g i, i ≤ t.size → t.size < i + f → X.size < s.size + 1 + i + g → (wordsFrom t f i).2 = -1 → wordsFrom X g (s.size + 1 + i) = (shiftW (s.size + 1) (wordsFrom t f i).1, -1) := by
  intro f
  have hsz := h.size
  induction f with
  | zero => intro g i h1 h2; omega
  | succ f ih =>
    intro g i h1 h2 h3 ok
    obtain ⟨g, rfl⟩ : ∃ k, g = k + 1 := ⟨g - 1, by omega⟩
    by_cases hi : t.size ≤ i
    · rw [words_end hi, words_end (by omega)]; rfl
    · have hb := right_byte h i (by omega)
      by_cases hbl : blankS (bt t i) = true
      · rw [words_blank hi hbl] at ok ⊢
        rw [words_blank (by omega) (by rw [hb]; exact hbl)]
        exact ih g (i + 1) (by omega) (by omega) (by omega) ok
      · have hbf : blankS (bt t i) = false := by simpa using hbl
        obtain ⟨x, n, hx, hin⟩ := word_nat t i (by omega)
        obtain ⟨r1, r2⟩ := right_word h i (by omega)
        rw [hx] at r1 r2
        dsimp only at r1 r2
        by_cases hn : n = 0
        · obtain rfl := hn
          rw [words_bad hi hbf hx] at ok
          dsimp only at ok
          omega
        · have hx' : wordS X (s.size + 1 + i) = (x, (n : Int)) := Prod.ext (r2 (by omega)) r1
          rw [words_one hi hbf hx (by omega)] at ok ⊢
          dsimp only at ok ⊢
          rw [words_one (by omega) (by rw [hb]; exact hbf) hx' (by omega)]
          have := ih g (i + n) hin (by omega) (by omega) ok
          rw [show s.size + 1 + (i + n) = s.size + 1 + i + n by omega] at this
          rw [this]
          rfl
theorem words_join (h : Joined s t X) : ∀ f g i, i ≤ s.size → s.size < i + f → X.size < i + g → (wordsFrom s f i).2 = -1 → (wordsFrom t (t.size + 1) 0).2 = -1 →
    wordsFrom X g i = ((wordsFrom s f i).1 ++ shiftW (s.size + 1) (wordsFrom t (t.size + 1) 0).1, -1) := by
  intro f
  have hsz := h.size
  induction f with
  | zero => intro g i h1 h2; omega
  | succ f ih =>
    intro g i h1 h2 h3 ok okt
    obtain ⟨g, rfl⟩ : ∃ k, g = k + 1 := ⟨g - 1, by omega⟩
    by_cases hi : s.size ≤ i
    · obtain rfl : i = s.size := by omega
      rw [words_end hi, words_blank (by omega) (by rw [h.mid]; rfl)]
      exact words_right h (t.size + 1) g 0 (by omega) (by omega) (by omega) okt
    · have hb := h.left i (by omega)
      by_cases hbl : blankS (bt s i) = true
      · rw [words_blank hi hbl] at ok ⊢
        rw [words_blank (by omega) (by rw [hb]; exact hbl)]
        exact ih g (i + 1) (by omega) (by omega) (by omega) ok okt
      · have hbf : blankS (bt s i) = false := by simpa using hbl
        obtain ⟨x, n, hx, hin⟩ := word_nat s i (by omega)
        by_cases hn : n = 0
        · obtain rfl := hn
          rw [words_bad hi hbf hx] at ok
          dsimp only at ok
          omega
        · have hx' : wordS X i = (x, (n : Int)) := by rw [join_word h i (by omega) (by rw [hx]; dsimp only; omega)]; exact hx
          rw [words_one hi hbf hx (by omega)] at ok ⊢
          dsimp only at ok ⊢
          rw [words_one (by omega) (by rw [hb]; exact hbf) hx' (by omega), ih g (i + n) hin (by omega) (by omega) ok okt]
          rfl
end
theorem wordsS_ok {s : ByteArray} {l : List (Wd × Nat)} {p : Int} (h : wordsS s = (l, p, 0)) : (wordsFrom s (s.size + 1) 0).2 = -1 ∧ (wordsFrom s (s.size + 1) 0).1 = l := by
  have key : ∀ f i, (wordsFrom s f i).2 = -1 ∨ 0 ≤ (wordsFrom s f i).2 := by
    intro f
    induction f with
    | zero => intro i; exact Or.inl rfl
    | succ f ih =>
      intro i
      unfold wordsFrom
      split
      · exact Or.inl rfl
      split
      · exact ih _
      split
      · exact Or.inr (by dsimp only; omega)
      · exact ih _
  unfold wordsS at h
  split at h
  · have := congrArg (·.2.2) h; dsimp only at this; omega
  split at h
  · have := congrArg (·.2.2) h; dsimp only at this; omega
  · have e := congrArg (·.1) h
    dsimp only at e
    have := key (s.size + 1) 0
    exact ⟨by omega, e⟩
theorem joined (s t : ByteArray) : Joined s t (s ++ { data := #[32] } ++ t) := by
  have hd : (s ++ { data := #[32] } ++ t).data = s.data ++ #[32] ++ t.data := by rw [ByteArray.data_append, ByteArray.data_append]
  have hl : (s ++ { data := #[32] } ++ t).data.toList = s.data.toList ++ 32 :: t.data.toList := by rw [hd]; simp
  have s0 : s.data.toList.length = s.size := by simp
  have hsz : (s ++ { data := #[32] } ++ t).size = s.size + 1 + t.size := by rw [ByteArray.size_append, ByteArray.size_append]; rfl
  refine ⟨hsz, fun i hi => ?_, ?_, fun a b hb => ?_, fun p hp => ?_⟩
  · rw [bt_get, bt_get, hl, List.getElem?_append_left (by omega)]
  · rw [bt_get, hl, List.getElem?_append_right (by omega), s0, Nat.sub_self]; rfl
  · apply ByteArray.ext
    rw [ByteArray.data_extract, ByteArray.data_extract]
    apply Array.ext'
    rw [Array.toList_extract, Array.toList_extract, hl, List.extract_eq_take_drop, List.extract_eq_take_drop]
    by_cases h : a ≤ s.size
    · rw [List.drop_append_of_le_length (by omega), List.take_append_of_le_length (by rw [List.length_drop]; omega)]
    · rw [show b - a = 0 by omega]; simp
  · apply ByteArray.ext
    rw [ByteArray.data_extract, ByteArray.data_extract]
    apply Array.ext'
    rw [Array.toList_extract, Array.toList_extract, hl, List.extract_eq_take_drop, List.extract_eq_take_drop, hsz]
    rw [show s.size + 1 + t.size - (s.size + 1 + p) = t.size - p by omega]
    congr 1
    rw [List.drop_append, s0, List.drop_of_length_le (by omega), List.nil_append, show s.size + 1 + p - s.size = p + 1 by omega]
    rfl
theorem wordsS_join {s t X : ByteArray} {a b : List (Wd × Nat)} {p q : Int} (h : Joined s t X) (hs : s.size ≤ 4000) (ht : t.size ≤ 4000) (ha : wordsS s = (a, p, 0)) (hb : wordsS t = (b, q, 0)) : wordsS X = (a ++ shiftW (s.size + 1) b, 0, 0) := by
  obtain ⟨a1, a2⟩ := wordsS_ok ha
  obtain ⟨b1, b2⟩ := wordsS_ok hb
  have hsz := h.size
  unfold wordsS
  rw [if_neg (by omega), words_join h (s.size + 1) (X.size + 1) 0 (by omega) (by omega) (by omega) a1 b1, if_neg (by dsimp only; omega), a2, b2]
end Go.Proofs.Ytdcldhkpmihahaa
