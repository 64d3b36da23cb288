/- Joined: Holds, NamesMath. -/
import Derived.Test.YtkbfoelffeocmaaWordOk
import Derived.Test.YtkbfoelffeocmaaMb
import Derived.Test.YtkbfoelffeocmaaPMath
/- Texts within texts; a name in braces is a word. -/
namespace Go.Proofs.Ytkbfoelffeocmaa
open Go.RowKit
set_option linter.unusedSimpArgs false
set_option linter.unusedVariables false

theorem app_size (a b : ByteArray) : (a ++ b).size = a.size + b.size := ByteArray.size_append
theorem bt_app (a b : ByteArray) (i : Nat) : bt (a ++ b) i = if i < a.size then bt a i else bt b (i - a.size) := by
  rw [bt_get, bt_get, bt_get]
  have e : (a ++ b).data.toList = a.data.toList ++ b.data.toList := by rw [ByteArray.data_append, Array.toList_append]
  have ha : a.data.toList.length = a.size := by rw [Array.length_toList]; rfl
  rw [e]
  split
  · rw [List.getElem?_append_left (by omega)]
  · rw [List.getElem?_append_right (by omega), ha]
theorem ext_bt {a b : ByteArray} (hs : a.size = b.size) (h : ∀ i, i < a.size → bt a i = bt b i) : a = b := by
  apply ByteArray.ext
  apply Array.ext
  · exact hs
  · intro i h1 h2
    have h1' : i < a.size := h1
    have h2' : i < b.size := h2
    have := h i h1'
    rw [← bt_is h1', ← bt_is h2'] at this
    exact UInt8.toNat_inj.1 this
/-- A text stands in another one at a place. -/
def Holds (X : ByteArray) (p : Nat) (u : ByteArray) : Prop := p + u.size ≤ X.size ∧ ∀ i, i < u.size → bt X (p + i) = bt u i
theorem Holds.app {X u v : ByteArray} {p : Nat} : Holds X p (u ++ v) ↔ Holds X p u ∧ Holds X (p + u.size) v := by
  unfold Holds
  rw [app_size]
  constructor
  · rintro ⟨h1, h2⟩
    refine ⟨⟨by omega, fun i hi => ?_⟩, ⟨by omega, fun i hi => ?_⟩⟩
    · rw [h2 i (by omega), bt_app, if_pos hi]
    · have := h2 (u.size + i) (by omega)
      rw [bt_app, if_neg (by omega), show u.size + i - u.size = i by omega] at this
      rw [← this]; congr 1; omega
  · rintro ⟨⟨h1, h2⟩, ⟨h3, h4⟩⟩
    refine ⟨by omega, fun i hi => ?_⟩
    rw [bt_app]
    split
    · exact h2 i (by assumption)
    · have := h4 (i - u.size) (by omega)
      rw [show p + u.size + (i - u.size) = p + i by omega] at this
      exact this
theorem Holds.self (X : ByteArray) : Holds X 0 X := ⟨by omega, fun i _ => by rw [Nat.zero_add]⟩
theorem Holds.one {X : ByteArray} {p : Nat} {c : UInt8} (h : Holds X p ⟨#[c]⟩) : p < X.size ∧ bt X p = c.toNat := by
  obtain ⟨h1, h2⟩ := h
  have hs : (ByteArray.mk #[c]).size = 1 := rfl
  rw [hs] at h1 h2
  exact ⟨by omega, by have := h2 0 (by omega); rw [Nat.add_zero] at this; rw [this]; rfl⟩
theorem Holds.sub {X u : ByteArray} {p : Nat} (h : Holds X p u) : X.extract p (p + u.size) = u := by
  have hs : (X.extract p (p + u.size)).size = u.size := by rw [ByteArray.size_extract]; have := h.1; omega
  refine ext_bt hs fun i hi => ?_
  rw [hs] at hi
  rw [bt_sub X p (p + u.size) i h.1 (by omega)]
  exact h.2 i hi
theorem find_at {t : ByteArray} {c : Nat} : ∀ (f i j : Nat), i ≤ j → j < t.size → bt t j = c → (∀ k, i ≤ k → k < j → bt t k ≠ c) → j < i + f → findS t c f i = j
  | 0, i, j, _, _, _, _, h => absurd h (by omega)
  | f + 1, i, j, h1, h2, h3, h4, h5 => by
    by_cases e : i = j
    · subst e; exact find_here (Or.inr h3)
    · rw [find_next (by intro q; rcases q with q | q; omega; exact h4 i (Nat.le_refl _) (by omega) q)]
      exact find_at f (i + 1) j (by omega) h2 h3 (fun k a b => h4 k (by omega) b) (by omega)
theorem named_size {u : ByteArray} (h : namedS u = true) : 1 ≤ u.size ∧ u.size ≤ 20 ∧ alphaS (bt u 0) = true ∧ ∀ i, i < u.size → inName (bt u i) = true := by
  unfold namedS at h
  rw [Bool.and_eq_true, Bool.and_eq_true] at h
  have h1 := of_decide_eq_true h.1
  refine ⟨h1.1, h1.2, h.2.1, fun i hi => ?_⟩
  have := h.2.2
  unfold nameTo at this
  rw [List.all_eq_true] at this
  exact this i (List.mem_range.2 hi)
theorem named_of {u : ByteArray} (h1 : 1 ≤ u.size) (h2 : u.size ≤ 20) (h3 : alphaS (bt u 0) = true) (h4 : ∀ i, i < u.size → inName (bt u i) = true) : namedS u = true := by
  unfold namedS nameTo
  rw [Bool.and_eq_true, Bool.and_eq_true, List.all_eq_true]
  exact ⟨decide_eq_true ⟨h1, h2⟩, h3, fun i hi => h4 i (List.mem_range.1 hi)⟩
theorem name_word {X u : ByteArray} {p : Nat} (h0 : bt X p = 123) (hu : Holds X (p + 1) u) (he : bt X (p + 1 + u.size) = 125) (hl : p + 1 + u.size < X.size) (hn : namedS u = true) : wordS X p = (⟨11, emptyC, u, 0, 0⟩, ((u.size + 2 : Nat) : Int)) := by
  have hf : findS X 125 (X.size + 1) (p + 1) = p + 1 + u.size := by
    refine find_at _ _ _ (by omega) hl he (fun k a b => ?_) (by omega)
    have := hu.2 (k - (p + 1)) (by omega)
    rw [show p + 1 + (k - (p + 1)) = k by omega] at this
    rw [this]
    intro e
    have h := (named_size hn).2.2.2 (k - (p + 1)) (by omega)
    rw [e] at h
    exact absurd h (by decide)
  unfold wordS
  rw [if_neg (by omega), if_neg (by omega), if_pos h0]
  unfold bracesS
  rw [hf, braces_name (by omega) hu.sub hn]
  congr 1
  omega
theorem blank_no {b : Nat} (h : b ≠ 32 ∧ b ≠ 10 ∧ b ≠ 9 ∧ b ≠ 13) : blankS b = false := by
  unfold blankS
  simp; omega
end Go.Proofs.Ytkbfoelffeocmaa

/- The texts that the law of names makes: their words, and what is read. -/
namespace Go.Proofs.Ytkbfoelffeocmaa
open Go.RowKit
set_option linter.unusedSimpArgs false
set_option linter.unusedVariables false

def t1 (u : ByteArray) : ByteArray := ByteArray.mk #[123] ++ u ++ ByteArray.mk #[125]
def t2 (u : ByteArray) : ByteArray := ByteArray.mk #[32, 123] ++ u ++ ByteArray.mk #[125, 124, 97]
def t3 (u : ByteArray) : ByteArray := ByteArray.mk #[97, 123] ++ u ++ ByteArray.mk #[113, 125]
theorem sz1 (a : UInt8) : (ByteArray.mk #[a]).size = 1 := rfl
theorem sz2 (a b : UInt8) : (ByteArray.mk #[a, b]).size = 2 := rfl
theorem sz3 (a b c : UInt8) : (ByteArray.mk #[a, b, c]).size = 3 := rfl
theorem holds2 {X : ByteArray} {p : Nat} {a b : UInt8} (h : Holds X p ⟨#[a, b]⟩) : p + 1 < X.size ∧ bt X p = a.toNat ∧ bt X (p + 1) = b.toNat := by
  obtain ⟨h1, h2⟩ := h
  rw [sz2] at h1 h2
  exact ⟨by omega, by have := h2 0 (by omega); rw [Nat.add_zero] at this; rw [this]; rfl, by rw [h2 1 (by omega)]; rfl⟩
theorem holds3 {X : ByteArray} {p : Nat} {a b c : UInt8} (h : Holds X p ⟨#[a, b, c]⟩) : p + 2 < X.size ∧ bt X p = a.toNat ∧ bt X (p + 1) = b.toNat ∧ bt X (p + 2) = c.toNat := by
  obtain ⟨h1, h2⟩ := h
  rw [sz3] at h1 h2
  exact ⟨by omega, by have := h2 0 (by omega); rw [Nat.add_zero] at this; rw [this]; rfl, by rw [h2 1 (by omega)]; rfl, by rw [h2 2 (by omega)]; rfl⟩
theorem word_sign {X : ByteArray} {p b : Nat} {k : Int} (h : bt X p = b) (h40 : ¬ b = 40) (h91 : ¬ b = 91) (h123 : ¬ b = 123) (hk : signsS (b : Int) = k) (hk0 : 0 < k) : wordS X p = (kindW k, 1) := by
  unfold wordS
  rw [h, if_neg h40, if_neg h91, if_neg h123, hk, if_pos hk0]
theorem word_self {X : ByteArray} {p b : Nat} (hp : p < X.size) (h : bt X p = b) (h40 : ¬ b = 40) (h91 : ¬ b = 91) (h123 : ¬ b = 123) (hk : ¬ 0 < signsS (b : Int)) (h46 : ¬ b = 46) (h92 : ¬ b = 92) (hin : inS ownW b = false) : wordS X p = (setW (St.zero.put b), 1) := by
  unfold wordS
  rw [h, if_neg h40, if_neg h91, if_neg h123, if_neg hk, if_neg h46, char_self hp h h92 hin]
  rfl
theorem words_t1 (u : ByteArray) (hn : namedS u = true) : wordsS (t1 u) = ([(⟨11, emptyC, u, 0, 0⟩, 0)], 0, 0) := by
  have hu := named_size hn
  have hs : (t1 u).size = u.size + 2 := by unfold t1; rw [app_size, app_size, sz1, sz1]; omega
  have h := Holds.self (t1 u)
  conv at h => rhs; rw [t1]
  rw [Holds.app, Holds.app] at h
  obtain ⟨⟨ha, hb⟩, hc⟩ := h
  rw [app_size, sz1] at hc
  rw [sz1] at hb
  have a := ha.one
  have c := hc.one
  have hw : wordS (t1 u) 0 = (⟨11, emptyC, u, 0, 0⟩, ((u.size + 2 : Nat) : Int)) := name_word a.2 hb (by have := c.2; rw [show 0 + (1 + u.size) = 0 + 1 + u.size by omega] at this; exact this) (by omega) hn
  have e := words_one (f := (t1 u).size) (by omega) (blank_no (by rw [a.2]; decide)) hw (by omega)
  rw [show 0 + (u.size + 2) = (t1 u).size by omega] at e
  have e2 : wordsFrom (t1 u) (t1 u).size (t1 u).size = ([], -1) := by
    rw [hs]; exact words_end (by omega)
  unfold wordsS
  rw [if_neg (by omega), e, e2, if_neg (show ¬ (0 : Int) ≤ -1 by decide)]
theorem words_t2 (u : ByteArray) (hn : namedS u = true) : wordsS (t2 u) = ([(⟨11, emptyC, u, 0, 0⟩, 1), (kindW 4, u.size + 3), (setW (St.zero.put 97), u.size + 4)], 0, 0) := by
  have hu := named_size hn
  have hs : (t2 u).size = u.size + 5 := by unfold t2; rw [app_size, app_size, sz2, sz3]; omega
  have h := Holds.self (t2 u)
  conv at h => rhs; rw [t2]
  rw [Holds.app, Holds.app] at h
  obtain ⟨⟨ha, hb⟩, hc⟩ := h
  rw [app_size, sz2] at hc
  rw [sz2] at hb
  have a := holds2 ha
  have c := holds3 hc
  rw [show 0 + (2 + u.size) = u.size + 2 by omega] at c
  have hw : wordS (t2 u) 1 = (⟨11, emptyC, u, 0, 0⟩, ((u.size + 2 : Nat) : Int)) := name_word a.2.2 hb (by rw [show 1 + 1 + u.size = u.size + 2 by omega]; exact c.2.1) (by omega) hn
  have hw2 : wordS (t2 u) (u.size + 3) = (kindW 4, ((1 : Nat) : Int)) := word_sign (b := 124) (k := 4) c.2.2.1 (by decide) (by decide) (by decide) (by decide) (by decide)
  have hw3 : wordS (t2 u) (u.size + 4) = (setW (St.zero.put 97), ((1 : Nat) : Int)) := word_self (b := 97) (by omega) c.2.2.2 (by decide) (by decide) (by decide) (by decide) (by decide) (by decide) (by decide)
  have e0 : wordsFrom (t2 u) (u.size + 6) 0 = wordsFrom (t2 u) (u.size + 5) 1 := words_blank (by omega) (by rw [a.2.1]; decide)
  have e1 := words_one (f := u.size + 4) (i := 1) (by omega) (blank_no (by rw [a.2.2]; decide)) hw (by omega)
  have e2 := words_one (f := u.size + 3) (i := u.size + 3) (by omega) (blank_no (by have := c.2.2.1; rw [show u.size + 2 + 1 = u.size + 3 by omega] at this; rw [this]; decide)) hw2 (by omega)
  have e3 := words_one (f := u.size + 2) (i := u.size + 4) (by omega) (blank_no (by have := c.2.2.2; rw [show u.size + 2 + 2 = u.size + 4 by omega] at this; rw [this]; decide)) hw3 (by omega)
  have e4 : wordsFrom (t2 u) (u.size + 2) (u.size + 5) = ([], -1) := by rw [show u.size + 2 = (u.size + 1) + 1 by omega]; exact words_end (by omega)
  rw [show u.size + 4 + 1 = u.size + 5 by omega, e4] at e3
  rw [show u.size + 3 + 1 = u.size + 4 by omega, e3] at e2
  rw [show u.size + 4 + 1 = u.size + 5 by omega, show 1 + (u.size + 2) = u.size + 3 by omega, show u.size + 4 = u.size + 3 + 1 by omega, e2] at e1
  unfold wordsS
  rw [if_neg (by omega), hs, show u.size + 5 + 1 = u.size + 6 by omega, e0, show u.size + 5 = u.size + 3 + 1 + 1 by omega, e1, if_neg (show ¬ (0 : Int) ≤ -1 by decide)]
def uq (u : ByteArray) : ByteArray := u ++ ByteArray.mk #[113]
theorem uq_named (u : ByteArray) (hn : namedS u = true) (hl : u.size < 20) : namedS (uq u) = true := by
  have hu := named_size hn
  have hs : (uq u).size = u.size + 1 := by unfold uq; rw [app_size, sz1]
  refine named_of (by omega) (by omega) ?_ fun i hi => ?_
  · unfold uq; rw [bt_app, if_pos (by omega)]; exact hu.2.2.1
  · unfold uq; rw [bt_app]
    split
    · exact hu.2.2.2 i (by assumption)
    · rw [show i - u.size = 0 by omega]; decide
theorem words_t3 (u : ByteArray) (hn : namedS u = true) (hl : u.size < 20) : wordsS (t3 u) = ([(setW (St.zero.put 97), 0), (⟨11, emptyC, uq u, 0, 0⟩, 1)], 0, 0) := by
  have hu := named_size hn
  have hq := uq_named u hn hl
  have hsq : (uq u).size = u.size + 1 := by unfold uq; rw [app_size, sz1]
  have hs : (t3 u).size = u.size + 4 := by unfold t3; rw [app_size, app_size, sz2, sz2]; omega
  have h := Holds.self (t3 u)
  conv at h => rhs; rw [t3]
  rw [Holds.app, Holds.app] at h
  obtain ⟨⟨ha, hb⟩, hc⟩ := h
  rw [app_size, sz2] at hc
  rw [sz2] at hb
  have a := holds2 ha
  have c := holds2 hc
  have hbq : Holds (t3 u) (1 + 1) (uq u) := by
    unfold uq
    rw [Holds.app]
    refine ⟨hb, ⟨by rw [sz1]; omega, fun i hi => ?_⟩⟩
    rw [sz1] at hi
    obtain rfl : i = 0 := by omega
    rw [Nat.add_zero, show 1 + 1 + u.size = 0 + (2 + u.size) by omega, c.2.1]; rfl
  have hw1 : wordS (t3 u) 0 = (setW (St.zero.put 97), ((1 : Nat) : Int)) := word_self (b := 97) (by omega) a.2.1 (by decide) (by decide) (by decide) (by decide) (by decide) (by decide) (by decide)
  have hw2 : wordS (t3 u) 1 = (⟨11, emptyC, uq u, 0, 0⟩, (((uq u).size + 2 : Nat) : Int)) := name_word a.2.2 hbq (by rw [hsq, show 1 + 1 + (u.size + 1) = 0 + (2 + u.size) + 1 by omega]; exact c.2.2) (by omega) hq
  have e1 := words_one (f := u.size + 4) (i := 0) (by omega) (blank_no (by rw [a.2.1]; decide)) hw1 (by omega)
  have e2 := words_one (f := u.size + 3) (i := 1) (by omega) (blank_no (by rw [a.2.2]; decide)) hw2 (by omega)
  have e3 : wordsFrom (t3 u) (u.size + 3) (1 + ((uq u).size + 2)) = ([], -1) := by rw [show u.size + 3 = (u.size + 2) + 1 by omega]; exact words_end (by omega)
  rw [e3] at e2
  rw [show 0 + 1 = 1 from rfl, show u.size + 4 = u.size + 3 + 1 by omega, e2] at e1
  unfold wordsS
  rw [if_neg (by omega), hs, show u.size + 4 = u.size + 3 + 1 by omega, e1, if_neg (show ¬ (0 : Int) ≤ -1 by decide)]

/- What is read. -/
theorem pS_of {s : ByteArray} {ds : List (ByteArray × Tr)} {l : List (Wd × Nat)} {p : Int} (h : wordsS s = (l, p, 0)) : pS s ds = wholeS s.size ds (l.length + 1) ⟨l, 0, 0, 0⟩ := by unfold pS; rw [h]
theorem read_t1 (u : ByteArray) (R : Tr) (ds : List (ByteArray × Tr)) (hn : namedS u = true) : (pS (t1 u) ((u, R) :: ds)) = (R, ⟨[], 0, 0, 0⟩) := by
  rw [pS_of (words_t1 u hn)]
  simp [wholeS, orS, betweenS, restS, catS, nots, notS, postS, postsS, atomS, lookS, peekS, nextS, joinS, notBegins, timesW, wd0]
theorem read_t2 (u : ByteArray) (R : Tr) (ds : List (ByteArray × Tr)) (hn : namedS u = true) : (pS (t2 u) ((u, R) :: ds)) = (nodeT 4 [R, leafT 2 (St.zero.put 97) false] 0 0 false, ⟨[], 0, 0, 0⟩) := by
  rw [pS_of (words_t2 u hn)]
  simp [wholeS, orS, betweenS, restS, catS, nots, notS, postS, postsS, atomS, lookS, peekS, nextS, joinS, notBegins, timesW, wd0, kindW, setW]
theorem read_t3 (u : ByteArray) (R S : Tr) (hn : namedS u = true) (hl : u.size < 20) : (pS (t3 u) [(u, R), (u, S)]).2.flt = 5 ∧ (pS (t3 u) [(u, R), (u, S)]).2.place = 1 := by
  have hne : ¬ u = uq u := fun e => by
    have : u.size = (uq u).size := by rw [← e]
    unfold uq at this
    rw [app_size, sz1] at this
    omega
  rw [pS_of (words_t3 u hn hl)]
  simp [wholeS, orS, betweenS, restS, catS, nots, notS, postS, postsS, atomS, lookS, peekS, nextS, joinS, notBegins, timesW, wd0, kindW, setW, hne, failS]
end Go.Proofs.Ytkbfoelffeocmaa
