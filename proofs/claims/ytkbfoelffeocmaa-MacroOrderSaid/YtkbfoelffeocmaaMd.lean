/- Joined: MacAg, MacMath, MacFind, MacMat, MacSol, MacNext. -/
import Derived.Test.YtkbfoelffeocmaaPMath
import Derived.Deep.QuietTactic
import Derived.BigQuiet
import Derived.Deep.WholeRow
import Derived.RegionTactic
/- What the parser reads hangs on what the Names of its words stand for, and on no other. -/
namespace Go.Proofs.Ytkbfoelffeocmaa
open Go.RowKit
set_option linter.unusedSimpArgs false
set_option linter.unusedVariables false

/-- Two lists of defs say the same of the Names among these words. -/
def SameOn (ws : List (Wd × Nat)) (ds ds' : List (ByteArray × Tr)) : Prop := ∀ x ∈ ws, x.1.kind = 11 → ∀ s, lookS ds x s = lookS ds' x s
def Ag (ws : List (Wd × Nat)) (n : Nat) (m m' : PSt → Tr × PSt) : Prop := ∀ s, s.ws <:+ ws → s.ws.length < n → m s = m' s
section
variable {ws : List (Wd × Nat)} {E n : Nat} {m m' : PSt → Tr × PSt}
theorem nots_ag (h : Ag ws n m m') (hg : PGood n m) : ∀ (f : Nat) (l : List Tr) (s : PSt), s.ws <:+ ws → s.ws.length < n → nots E m f l s = nots E m' f l s
  | 0, _, _, _, _ => rfl
  | f + 1, l, s, hs, hn => by
    unfold nots
    rw [← h s hs hn, nots_ag h hg f _ _ ((hg s hn).1.trans hs) (Nat.lt_of_le_of_lt (hg s hn).1.length_le hn)]
theorem cat_ag {f : Nat} (h : Ag ws n m m') (hg : PGood n m) : Ag ws n (catS E m f) (catS E m' f) := fun s hs hn => by
  unfold catS
  rw [nots_ag (E := E) h hg f [] s hs hn]
theorem rest_ag {sg : Int} (h : Ag ws n m m') (hg : PGood n m) : ∀ (f : Nat) (l : List Tr) (s : PSt), s.ws <:+ ws → s.ws.length < n → restS E sg m f l s = restS E sg m' f l s
  | 0, _, _, _, _ => rfl
  | f + 1, l, s, hs, hn => by
    have hs' := (next_ws s).trans hs
    have hn' := Nat.lt_of_le_of_lt (next_ws s).length_le hn
    unfold restS
    rw [← h (nextS s) hs' hn', rest_ag h hg f _ _ ((hg _ hn').1.trans hs') (Nat.lt_of_le_of_lt (hg _ hn').1.length_le hn')]
theorem between_ag {sg kd : Int} {f : Nat} (h : Ag ws n m m') (hg : PGood n m) : Ag ws n (betweenS E sg kd m f) (betweenS E sg kd m' f) := fun s hs hn => by
  unfold betweenS
  rw [← h s hs hn, rest_ag (E := E) h hg f _ _ ((hg s hn).1.trans hs) (Nat.lt_of_le_of_lt (hg s hn).1.length_le hn)]
theorem or_ag {f : Nat} (h : Ag ws n m m') (hg : PGood n m) : Ag ws n (orS E m f) (orS E m' f) :=
  between_ag (between_ag (cat_ag h hg) (cat_good hg)) (between_good (cat_good hg))
theorem bracket_ag {f : Nat} (h : Ag ws n (orS E m f) (orS E m' f)) (p : Nat) (s : PSt) (hs : s.ws <:+ ws) (hn : s.ws.length < n) : bracketS E m f p s = bracketS E m' f p s := by
  unfold bracketS
  rw [h (enterS p s) ((enter_ws p s).trans hs) (Nat.lt_of_le_of_lt (enter_ws p s).length_le hn)]
theorem atom_ag {f : Nat} {ds ds' : List (ByteArray × Tr)} (hd : SameOn ws ds ds') (h : Ag ws n (orS E m f) (orS E m' f)) : Ag ws (n + 1) (atomS E ds m f) (atomS E ds' m' f) := fun s hs hn => by
  obtain ⟨x, hx⟩ : ∃ x, peekS E s = x := ⟨_, rfl⟩
  have br : x.1.kind ≠ 0 → bracketS E m f x.2 (nextS s) = bracketS E m' f x.2 (nextS s) := fun hk => by
    have e := peek_some hx hk
    have e2 : s.ws.length = (nextS s).ws.length + 1 := by rw [e]; simp
    exact bracket_ag h _ _ ((next_ws s).trans hs) (by omega)
  have lk : x.1.kind = 11 → lookS ds x (nextS s) = lookS ds' x (nextS s) := fun hk => hd x (hs.subset (by rw [peek_some hx (by omega)]; simp)) hk _
  unfold atomS
  dsimp only
  rw [hx]
  by_cases h1 : x.1.kind = 1
  · rw [if_pos h1, if_pos h1]
  rw [if_neg h1, if_neg h1]
  by_cases h2 : x.1.kind = 11
  · rw [if_pos h2, if_pos h2]; exact lk h2
  rw [if_neg h2, if_neg h2]
  by_cases h3 : x.1.kind = 16
  · rw [if_pos h3, if_pos h3]
  rw [if_neg h3, if_neg h3]
  by_cases h4 : x.1.kind = 17
  · rw [if_pos h4, if_pos h4]
  rw [if_neg h4, if_neg h4]
  by_cases h5 : x.1.kind = 2
  · rw [if_pos h5, if_pos h5]; exact br (by omega)
  rw [if_neg h5, if_neg h5]
  by_cases h6 : x.1.kind = 12 ∨ x.1.kind = 13
  · rw [if_pos h6, if_pos h6, br (by omega)]
  rw [if_neg h6, if_neg h6]
  by_cases h7 : x.1.kind = 14 ∨ x.1.kind = 15
  · rw [if_pos h7, if_pos h7, br (by omega)]
  rw [if_neg h7, if_neg h7]
theorem post_ag {f : Nat} {ds ds' : List (ByteArray × Tr)} (h : Ag ws n (atomS E ds m f) (atomS E ds' m' f)) : Ag ws n (postS E ds m f) (postS E ds' m' f) := fun s hs hn => by
  unfold postS
  rw [h s hs hn]
end
theorem not_ag {ws : List (Wd × Nat)} {E : Nat} {ds ds' : List (ByteArray × Tr)} (hd : SameOn ws ds ds') : ∀ f, Ag ws f (notS E ds f) (notS E ds' f)
  | 0 => fun s _ hn => absurd hn (Nat.not_lt_zero _)
  | f + 1 => fun s hs hn => by
    have ih := not_ag (E := E) hd f
    have hg := (not_good (E := E) (ds := ds) f).1
    by_cases h6 : (peekS E s).1.kind = 6
    · have e : notS E ds (f + 1) s = (nodeT 6 [(notS E ds f (enterS (peekS E s).2 (nextS s))).1] 0 0 false, leaveS (notS E ds f (enterS (peekS E s).2 (nextS s))).2) := if_pos h6
      have e' : notS E ds' (f + 1) s = (nodeT 6 [(notS E ds' f (enterS (peekS E s).2 (nextS s))).1] 0 0 false, leaveS (notS E ds' f (enterS (peekS E s).2 (nextS s))).2) := if_pos h6
      have hp := peek_some (E := E) (s := s) rfl (by omega)
      have e2 : s.ws.length = (nextS s).ws.length + 1 := by rw [hp]; simp
      rw [e, e', ih (enterS (peekS E s).2 (nextS s)) ((enter_ws _ _).trans ((next_ws s).trans hs)) (by have := (enter_ws (peekS E s).2 (nextS s)).length_le; omega)]
    · have e : notS E ds (f + 1) s = postS E ds (notS E ds f) (f + 1) s := if_neg h6
      have e' : notS E ds' (f + 1) s = postS E ds' (notS E ds' f) (f + 1) s := if_neg h6
      rw [e, e']
      exact post_ag (atom_ag hd (or_ag ih hg)) s hs hn
theorem pS_ag {s : ByteArray} {ds ds' : List (ByteArray × Tr)} (hd : SameOn (wordsS s).1 ds ds') : pS s ds = pS s ds' := by
  have h := or_ag (E := s.size) (f := (wordsS s).1.length + 1) (not_ag (E := s.size) hd ((wordsS s).1.length + 1)) (not_good (E := s.size) (ds := ds) ((wordsS s).1.length + 1)).1 ⟨(wordsS s).1, 0, 0, 0⟩ (List.suffix_refl _) (Nat.lt_succ_self _)
  unfold pS wholeS
  dsimp only
  rw [h]

/- No Name is missed where each is there. -/
def AllIn (ws : List (Wd × Nat)) (ds : List (ByteArray × Tr)) : Prop := ∀ x ∈ ws, x.1.kind = 11 → ∃ d ∈ ds, d.1 = x.1.name
theorem look_in {ds : List (ByteArray × Tr)} {x : Wd × Nat} (h : ∃ d ∈ ds, d.1 = x.1.name) (s : PSt) : (lookS ds x s).2 = s := by
  induction ds with
  | nil => obtain ⟨d, hd, _⟩ := h; exact absurd hd List.not_mem_nil
  | cons d r ih =>
    unfold lookS
    split
    · rfl
    · rename_i hne
      obtain ⟨d', hd', e⟩ := h
      rcases List.mem_cons.1 hd' with rfl | hd'
      · exact absurd e hne
      · exact ih ⟨d', hd', e⟩
def N5 (ws : List (Wd × Nat)) (n : Nat) (m : PSt → Tr × PSt) : Prop := ∀ s, s.ws <:+ ws → s.ws.length < n → s.flt ≠ 5 → (m s).2.flt ≠ 5
theorem fail_n5 {p e : Int} {s : PSt} (he : e ≠ 5) (h : s.flt ≠ 5) : (failS p e s).flt ≠ 5 := by unfold failS; split; exact he; exact h
theorem enter_n5 {p : Int} {s : PSt} (h : s.flt ≠ 5) : (enterS p s).flt ≠ 5 := by
  unfold enterS
  split
  · exact fail_n5 (s := { s with op := s.op + 1 }) (by decide) h
  · exact h
section
variable {ws : List (Wd × Nat)} {E n : Nat} {m : PSt → Tr × PSt}
theorem nots_n5 (h : N5 ws n m) (hg : PGood n m) : ∀ (f : Nat) (l : List Tr) (s : PSt), s.ws <:+ ws → s.ws.length < n → s.flt ≠ 5 → (nots E m f l s).2.flt ≠ 5
  | 0, _, _, _, _, q => q
  | f + 1, l, s, hs, hn, q => by
    unfold nots
    split
    · exact nots_n5 h hg f _ _ ((hg s hn).1.trans hs) (Nat.lt_of_le_of_lt (hg s hn).1.length_le hn) (h s hs hn q)
    · exact q
theorem rest_n5 {sg : Int} (h : N5 ws n m) (hg : PGood n m) : ∀ (f : Nat) (l : List Tr) (s : PSt), s.ws <:+ ws → s.ws.length < n → s.flt ≠ 5 → (restS E sg m f l s).2.flt ≠ 5
  | 0, _, _, _, _, q => q
  | f + 1, l, s, hs, hn, q => by
    have hs' := (next_ws s).trans hs
    have hn' := Nat.lt_of_le_of_lt (next_ws s).length_le hn
    unfold restS
    split
    · exact rest_n5 h hg f _ _ ((hg _ hn').1.trans hs') (Nat.lt_of_le_of_lt (hg _ hn').1.length_le hn') (h _ hs' hn' q)
    · exact q
theorem between_n5 {sg kd : Int} {f : Nat} (h : N5 ws n m) (hg : PGood n m) : N5 ws n (betweenS E sg kd m f) := fun s hs hn q =>
  rest_n5 (E := E) h hg f _ _ ((hg s hn).1.trans hs) (Nat.lt_of_le_of_lt (hg s hn).1.length_le hn) (h s hs hn q)
theorem or_n5 {f : Nat} (h : N5 ws n m) (hg : PGood n m) : N5 ws n (orS E m f) :=
  between_n5 (between_n5 (fun s hs hn q => nots_n5 h hg f [] s hs hn q) (cat_good hg)) (between_good (cat_good hg))
theorem bracket_n5 {f : Nat} (h : N5 ws n (orS E m f)) (p : Nat) (s : PSt) (hs : s.ws <:+ ws) (hn : s.ws.length < n) (q : s.flt ≠ 5) : (bracketS E m f p s).2.flt ≠ 5 := by
  have h1 : (leaveS (orS E m f (enterS p s)).2).flt ≠ 5 := h (enterS p s) ((enter_ws p s).trans hs) (Nat.lt_of_le_of_lt (enter_ws p s).length_le hn) (enter_n5 q)
  unfold bracketS
  dsimp only
  split
  · exact h1
  · exact fail_n5 (by decide) h1
theorem atom_n5 {f : Nat} {ds : List (ByteArray × Tr)} (hd : AllIn ws ds) (h : N5 ws n (orS E m f)) : N5 ws (n + 1) (atomS E ds m f) := fun s hs hn q => by
  obtain ⟨x, hx⟩ : ∃ x, peekS E s = x := ⟨_, rfl⟩
  have br : x.1.kind ≠ 0 → (bracketS E m f x.2 (nextS s)).2.flt ≠ 5 := fun hk => by
    have e := peek_some hx hk
    have e2 : s.ws.length = (nextS s).ws.length + 1 := by rw [e]; simp
    exact bracket_n5 h _ _ ((next_ws s).trans hs) (by omega) q
  have lk : x.1.kind = 11 → (lookS ds x (nextS s)).2.flt ≠ 5 := fun hk => by
    rw [look_in (hd x (hs.subset (by rw [peek_some hx (by omega)]; simp)) hk)]; exact q
  unfold atomS
  dsimp only
  rw [hx]
  by_cases h1 : x.1.kind = 1
  · rw [if_pos h1]; exact q
  rw [if_neg h1]
  by_cases h2 : x.1.kind = 11
  · rw [if_pos h2]; exact lk h2
  rw [if_neg h2]
  by_cases h3 : x.1.kind = 16
  · rw [if_pos h3]; exact q
  rw [if_neg h3]
  by_cases h4 : x.1.kind = 17
  · rw [if_pos h4]; exact q
  rw [if_neg h4]
  by_cases h5 : x.1.kind = 2
  · rw [if_pos h5]; exact br (by omega)
  rw [if_neg h5]
  by_cases h6 : x.1.kind = 12 ∨ x.1.kind = 13
  · rw [if_pos h6]; exact br (by omega)
  rw [if_neg h6]
  by_cases h7 : x.1.kind = 14 ∨ x.1.kind = 15
  · rw [if_pos h7]; exact br (by omega)
  rw [if_neg h7]
  exact fail_n5 (by decide) q
theorem posts_n5 : ∀ (f : Nat) (t : Tr) (s : PSt), s.flt ≠ 5 → (postsS E f t s).2.flt ≠ 5
  | 0, _, _, q => q
  | f + 1, t, s, q => by
    unfold postsS
    split
    · exact posts_n5 f _ (nextS s) q
    · exact q
end
theorem not_n5 {ws : List (Wd × Nat)} {E : Nat} {ds : List (ByteArray × Tr)} (hd : AllIn ws ds) : ∀ f, N5 ws f (notS E ds f)
  | 0 => fun s _ hn => absurd hn (Nat.not_lt_zero _)
  | f + 1 => fun s hs hn q => by
    have ih := not_n5 (E := E) hd f
    have hg := (not_good (E := E) (ds := ds) f).1
    by_cases h6 : (peekS E s).1.kind = 6
    · have e : notS E ds (f + 1) s = (nodeT 6 [(notS E ds f (enterS (peekS E s).2 (nextS s))).1] 0 0 false, leaveS (notS E ds f (enterS (peekS E s).2 (nextS s))).2) := if_pos h6
      have hp := peek_some (E := E) (s := s) rfl (by omega)
      have e2 : s.ws.length = (nextS s).ws.length + 1 := by rw [hp]; simp
      rw [e]
      exact ih (enterS (peekS E s).2 (nextS s)) ((enter_ws _ _).trans ((next_ws s).trans hs)) (by have := (enter_ws (peekS E s).2 (nextS s)).length_le; omega) (enter_n5 q)
    · have e : notS E ds (f + 1) s = postS E ds (notS E ds f) (f + 1) s := if_neg h6
      rw [e]
      exact posts_n5 _ _ _ (atom_n5 hd (or_n5 ih hg) s hs hn q)
theorem pS_n5 {s : ByteArray} {ds : List (ByteArray × Tr)} (hd : AllIn (wordsS s).1 ds) : (pS s ds).2.flt ≠ 5 := by
  have h := or_n5 (E := s.size) (f := (wordsS s).1.length + 1) (not_n5 (E := s.size) hd ((wordsS s).1.length + 1)) (not_good (E := s.size) (ds := ds) ((wordsS s).1.length + 1)).1 ⟨(wordsS s).1, 0, 0, 0⟩ (List.suffix_refl _) (Nat.lt_succ_self _) (by show (0 : Int) ≠ 5; decide)
  unfold pS wholeS
  dsimp only
  split
  · exact h
  · exact fail_n5 (by decide) h
/-- What the parser stops at, where each Name is there: no form, or too deep. -/
theorem pS_two {s : ByteArray} {ds : List (ByteArray × Tr)} (hd : AllIn (wordsS s).1 ds) : (pS s ds).2.flt = 0 ∨ (pS s ds).2.flt = 2 ∨ (pS s ds).2.flt = 8 := by
  rcases (pS_fl s ds).2 with h | ⟨h | h | h, _⟩
  · exact Or.inl h
  · exact Or.inr (Or.inl h)
  · exact absurd h (pS_n5 hd)
  · exact Or.inr (Or.inr h)

end Go.Proofs.Ytkbfoelffeocmaa

/- Macros: what is wrong with them, and what they stand for: the mathematics. -/
namespace Go.Proofs.Ytkbfoelffeocmaa
open Go.RowKit
set_option linter.unusedSimpArgs false
set_option linter.unusedVariables false

def noM : ByteArray × ByteArray := ({ data := #[] }, { data := #[] })
def atM (ms : List (ByteArray × ByteArray)) (i : Nat) : ByteArray × ByteArray := (ms[i]?).getD noM
theorem atM_lt {ms : List (ByteArray × ByteArray)} {i : Nat} (h : i < ms.length) : atM ms i = ms[i] := by unfold atM; rw [List.getElem?_eq_getElem h]; rfl
theorem atM_mem {ms : List (ByteArray × ByteArray)} {i : Nat} (h : i < ms.length) : atM ms i ∈ ms := by rw [atM_lt h]; exact List.getElem_mem h
theorem mem_atM {ms : List (ByteArray × ByteArray)} {m : ByteArray × ByteArray} (h : m ∈ ms) : ∃ i, i < ms.length ∧ atM ms i = m := by
  obtain ⟨i, hi, e⟩ := List.getElem_of_mem h
  exact ⟨i, hi, by rw [atM_lt hi, e]⟩
theorem atM_succ (m : ByteArray × ByteArray) (r : List (ByteArray × ByteArray)) (i : Nat) : atM (m :: r) (i + 1) = atM r i := by unfold atM; simp
theorem atM_take {ms : List (ByteArray × ByteArray)} {i k : Nat} (h : k < i) : atM (ms.take i) k = atM ms k := by unfold atM; rw [List.getElem?_take_of_lt h]

/- Which is the first one of a name. -/
def findM : List (ByteArray × ByteArray) → ByteArray → Nat → Int
  | [], _, _ => -1
  | m :: r, nm, i => if m.1 = nm then (i : Int) else findM r nm (i + 1)
theorem findM_spec : ∀ (ms : List (ByteArray × ByteArray)) (nm : ByteArray) (i : Nat), (findM ms nm i = -1 ∧ ∀ m ∈ ms, m.1 ≠ nm) ∨ ∃ j, j < ms.length ∧ findM ms nm i = ((i + j : Nat) : Int) ∧ (atM ms j).1 = nm ∧ ∀ k, k < j → (atM ms k).1 ≠ nm
  | [], _, _ => Or.inl ⟨rfl, fun m hm => absurd hm List.not_mem_nil⟩
  | m :: r, nm, i => by
    unfold findM
    by_cases h : m.1 = nm
    · rw [if_pos h]; exact Or.inr ⟨0, by simp, rfl, h, fun k hk => absurd hk (Nat.not_lt_zero _)⟩
    · rw [if_neg h]
      rcases findM_spec r nm (i + 1) with ⟨h1, h2⟩ | ⟨j, h1, h2, h3, h4⟩
      · exact Or.inl ⟨h1, fun m' hm' => by rcases List.mem_cons.1 hm' with rfl | q; exact h; exact h2 m' q⟩
      · refine Or.inr ⟨j + 1, by simp; omega, by rw [h2]; congr 1; omega, by rw [atM_succ]; exact h3, fun k hk => ?_⟩
        cases k with
        | zero => exact h
        | succ k => rw [atM_succ]; exact h4 k (by omega)
theorem findM_neg {ms : List (ByteArray × ByteArray)} {nm : ByteArray} : findM ms nm 0 < 0 ↔ ∀ m ∈ ms, m.1 ≠ nm := by
  rcases findM_spec ms nm 0 with ⟨h1, h2⟩ | ⟨j, h1, h2, h3, h4⟩
  · rw [h1]; exact ⟨fun _ => h2, fun _ => by decide⟩
  · rw [h2]; exact ⟨fun q => by omega, fun q => absurd h3 (q _ (atM_mem h1))⟩
theorem findM_lt {ms : List (ByteArray × ByteArray)} {nm : ByteArray} (h : ¬ findM ms nm 0 < 0) : ∃ j, j < ms.length ∧ findM ms nm 0 = (j : Int) ∧ (atM ms j).1 = nm := by
  rcases findM_spec ms nm 0 with ⟨h1, h2⟩ | ⟨j, h1, h2, h3, h4⟩
  · rw [h1] at h; exact absurd (by decide) h
  · exact ⟨j, h1, by rw [h2]; congr 1; omega, h3⟩

/- What is wrong with names, and with texts. -/
def namesF (ms : List (ByteArray × ByteArray)) : Nat → Nat → Int × Int
  | 0, _ => (0, 0)
  | k + 1, i => if namedS (atM ms i).1 = false then ((i : Int), 2) else if 0 ≤ findM (ms.take i) (atM ms i).1 0 then ((i : Int), 6) else namesF ms k (i + 1)
theorem namesF_ok (ms : List (ByteArray × ByteArray)) : ∀ k i, (namesF ms k i).2 = 0 ↔ ∀ j, i ≤ j → j < i + k → namedS (atM ms j).1 = true ∧ findM (ms.take j) (atM ms j).1 0 < 0
  | 0, i => ⟨fun _ j h1 h2 => by omega, fun _ => rfl⟩
  | k + 1, i => by
    have ih := namesF_ok ms k (i + 1)
    unfold namesF
    by_cases h : namedS (atM ms i).1 = false
    · rw [if_pos h]
      exact ⟨fun q => absurd q (by dsimp only; omega), fun q => by have := (q i (Nat.le_refl _) (by omega)).1; rw [h] at this; cases this⟩
    rw [if_neg h]
    by_cases h2 : 0 ≤ findM (ms.take i) (atM ms i).1 0
    · rw [if_pos h2]
      exact ⟨fun q => absurd q (by dsimp only; omega), fun q => by have := (q i (Nat.le_refl _) (by omega)).2; omega⟩
    rw [if_neg h2, ih]
    refine ⟨fun q j h3 h4 => ?_, fun q j h3 h4 => q j (by omega) (by omega)⟩
    by_cases e : j = i
    · subst e; exact ⟨by cases hh : namedS (atM ms j).1; exact absurd hh h; rfl, by omega⟩
    · exact q j (by omega) (by omega)
/-- The place of the first Name that no macro has. -/
def wordF (ms : List (ByteArray × ByteArray)) : List (Wd × Nat) → Option Nat
  | [] => none
  | x :: r => if x.1.kind = 11 ∧ findM ms x.1.name 0 < 0 then some x.2 else wordF ms r
theorem wordF_none (ms : List (ByteArray × ByteArray)) : ∀ ws, wordF ms ws = none ↔ ∀ x ∈ ws, x.1.kind = 11 → ¬ findM ms x.1.name 0 < 0
  | [] => ⟨fun _ x hx => absurd hx List.not_mem_nil, fun _ => rfl⟩
  | x :: r => by
    have ih := wordF_none ms r
    unfold wordF
    by_cases h : x.1.kind = 11 ∧ findM ms x.1.name 0 < 0
    · rw [if_pos h]; exact ⟨fun q => (by cases q), fun q => absurd h.2 (q x (by simp) h.1)⟩
    · rw [if_neg h, ih]
      refine ⟨fun q y hy hk => ?_, fun q y hy hk => q y (List.mem_cons_of_mem _ hy) hk⟩
      rcases List.mem_cons.1 hy with rfl | hy
      · exact fun q2 => h ⟨hk, q2⟩
      · exact q y hy hk
def textF (ms : List (ByteArray × ByteArray)) (i : Nat) : Option (Int × Int) :=
  if (wordsS (atM ms i).2).2.2 ≠ 0 then some ((wordsS (atM ms i).2).2.1, (wordsS (atM ms i).2).2.2)
  else match wordF ms (wordsS (atM ms i).2).1 with | some p => some ((p : Int), 5) | none => none
def textsF (ms : List (ByteArray × ByteArray)) : Nat → Nat → Int × Int × Int
  | 0, _ => (0, 0, 0)
  | k + 1, i => match textF ms i with | some (p, e) => ((i : Int), p, e) | none => textsF ms k (i + 1)
theorem textF_none (ms : List (ByteArray × ByteArray)) (i : Nat) : textF ms i = none ↔ (wordsS (atM ms i).2).2.2 = 0 ∧ ∀ x ∈ (wordsS (atM ms i).2).1, x.1.kind = 11 → ¬ findM ms x.1.name 0 < 0 := by
  unfold textF
  by_cases h : (wordsS (atM ms i).2).2.2 = 0
  · rw [if_neg (by simp [h]), ← wordF_none]
    cases hw : wordF ms (wordsS (atM ms i).2).1 with
    | none => simp [h]
    | some p => simp
  · rw [if_pos h]; simp [h]
theorem textF_err {ms : List (ByteArray × ByteArray)} {i : Nat} {p e : Int} (h : textF ms i = some (p, e)) : e ≠ 0 := by
  unfold textF at h
  split at h
  · rename_i h1; injection h with h; injection h with _ h; rw [← h]; exact h1
  · split at h
    · injection h with h; injection h with _ h; omega
    · cases h
theorem textsF_ok (ms : List (ByteArray × ByteArray)) : ∀ k i, (textsF ms k i).2.2 = 0 ↔ ∀ j, i ≤ j → j < i + k → textF ms j = none
  | 0, i => ⟨fun _ j h1 h2 => by omega, fun _ => rfl⟩
  | k + 1, i => by
    have ih := textsF_ok ms k (i + 1)
    unfold textsF
    cases h : textF ms i with
    | some pe =>
      obtain ⟨p, e⟩ := pe
      exact ⟨fun q => absurd q (textF_err h), fun q => by have := q i (Nat.le_refl _) (by omega); rw [h] at this; cases this⟩
    | none =>
      dsimp only
      rw [ih]
      refine ⟨fun q j h3 h4 => ?_, fun q j h3 h4 => q j (by omega) (by omega)⟩
      by_cases e : j = i
      · subst e; exact h
      · exact q j (by omega) (by omega)

/- Which lean on which. -/
def hasN (ws : List (Wd × Nat)) (nm : ByteArray) : Bool := ws.any (fun x => decide (x.1.kind = 11) && decide (x.1.name = nm))
theorem hasN_iff {ws : List (Wd × Nat)} {nm : ByteArray} : hasN ws nm = true ↔ ∃ x ∈ ws, x.1.kind = 11 ∧ x.1.name = nm := by
  unfold hasN; rw [List.any_eq_true]; simp
def mat0 (ms : List (ByteArray × ByteArray)) (i j : Nat) : Bool := decide (i < ms.length) && (decide (j < ms.length) && hasN (wordsS (atM ms i).2).1 (atM ms j).1)
theorem mat0_iff {ms : List (ByteArray × ByteArray)} {i j : Nat} : mat0 ms i j = true ↔ i < ms.length ∧ j < ms.length ∧ hasN (wordsS (atM ms i).2).1 (atM ms j).1 = true := by
  unfold mat0; rw [Bool.and_eq_true, Bool.and_eq_true, decide_eq_true_iff, decide_eq_true_iff]
def stepM (v : Nat) (M : Nat → Nat → Bool) (i j : Nat) : Bool := M i j || (M i v && M v j)
def clos (M : Nat → Nat → Bool) : Nat → Nat → Nat → Bool
  | 0 => M
  | k + 1 => stepM k (clos M k)
def cycF (C : Nat → Nat → Bool) : Nat → Nat → Option Nat
  | 0, _ => none
  | k + 1, i => if C i i = true then some i else cycF C k (i + 1)
theorem cycF_none (C : Nat → Nat → Bool) : ∀ k i, cycF C k i = none ↔ ∀ j, i ≤ j → j < i + k → C j j = false
  | 0, i => ⟨fun _ j h1 h2 => by omega, fun _ => rfl⟩
  | k + 1, i => by
    have ih := cycF_none C k (i + 1)
    unfold cycF
    by_cases h : C i i = true
    · rw [if_pos h]; exact ⟨fun q => (by cases q), fun q => by have := q i (Nat.le_refl _) (by omega); rw [h] at this; cases this⟩
    · rw [if_neg h, ih]
      refine ⟨fun q j h3 h4 => ?_, fun q j h3 h4 => q j (by omega) (by omega)⟩
      by_cases e : j = i
      · subst e; cases hh : C j j; rfl; exact absurd hh h
      · exact q j (by omega) (by omega)
/-- By so many macros less the same, where the last ones don't lean on themselves. -/
theorem cycF_cut (C : Nat → Nat → Bool) : ∀ k d i, (∀ j, i + k ≤ j → C j j = false) → cycF C (k + d) i = cycF C k i
  | 0, d, i, h => by
    rw [Nat.zero_add]
    exact (cycF_none C d i).2 (fun j h1 _ => h j (by omega))
  | k + 1, d, i, h => by
    rw [show k + 1 + d = (k + d) + 1 by omega]
    unfold cycF
    rw [cycF_cut C k d (i + 1) (fun j hj => h j (by omega))]
inductive Tg {α : Type} (R : α → α → Prop) : α → α → Prop
  | one {a b : α} : R a b → Tg R a b
  | more {a b c : α} : Tg R a b → R b c → Tg R a c
theorem Tg.trans {α : Type} {R : α → α → Prop} {a b c : α} (h1 : Tg R a b) (h2 : Tg R b c) : Tg R a c := by
  induction h2 with
  | one h => exact Tg.more h1 h
  | more _ h ih => exact Tg.more ih h
theorem Tg.mono {α : Type} {R S : α → α → Prop} (hs : ∀ a b, R a b → S a b) {a b : α} (h : Tg R a b) : Tg S a b := by
  induction h with
  | one h => exact Tg.one (hs _ _ h)
  | more _ h ih => exact Tg.more ih (hs _ _ h)
theorem clos_sound (M : Nat → Nat → Bool) : ∀ k i j, clos M k i j = true → Tg (fun a b => M a b = true) i j
  | 0, i, j, h => Tg.one h
  | k + 1, i, j, h => by
    have h' : (clos M k i j || (clos M k i k && clos M k k j)) = true := h
    rw [Bool.or_eq_true, Bool.and_eq_true] at h'
    rcases h' with h' | ⟨h1, h2⟩
    · exact clos_sound M k i j h'
    · exact (clos_sound M k i k h1).trans (clos_sound M k k j h2)
theorem clos_more {M : Nat → Nat → Bool} {k i j : Nat} (h : clos M k i j = true) : clos M (k + 1) i j = true := by
  show (clos M k i j || _) = true
  rw [h]; rfl
theorem clos_base {M : Nat → Nat → Bool} {i j : Nat} (h : M i j = true) : ∀ k, clos M k i j = true
  | 0 => h
  | k + 1 => clos_more (clos_base h k)
theorem clos_or {M : Nat → Nat → Bool} {k i j : Nat} : clos M (k + 1) i j = true ↔ clos M k i j = true ∨ clos M k i k = true ∧ clos M k k j = true := by
  show (clos M k i j || (clos M k i k && clos M k k j)) = true ↔ _
  rw [Bool.or_eq_true, Bool.and_eq_true]
theorem clos_trans (M : Nat → Nat → Bool) : ∀ k i a j, a < k → clos M k i a = true → clos M k a j = true → clos M k i j = true
  | 0, _, _, _, h, _, _ => absurd h (Nat.not_lt_zero _)
  | k + 1, i, a, j, ha, h1, h2 => by
    rw [clos_or] at h1 h2 ⊢
    by_cases e : a = k
    · subst e
      have h1' : clos M a i a = true := by rcases h1 with q | q; exact q; exact q.1
      have h2' : clos M a a j = true := by rcases h2 with q | q; exact q; exact q.2
      exact Or.inr ⟨h1', h2'⟩
    · have ha' : a < k := by omega
      rcases h1 with p | ⟨p1, p2⟩
      · rcases h2 with q | ⟨q1, q2⟩
        · exact Or.inl (clos_trans M k i a j ha' p q)
        · exact Or.inr ⟨clos_trans M k i a k ha' p q1, q2⟩
      · rcases h2 with q | ⟨q1, q2⟩
        · exact Or.inr ⟨p1, clos_trans M k k a j ha' p2 q⟩
        · exact Or.inr ⟨p1, q2⟩
theorem clos_whole {M : Nat → Nat → Bool} {n : Nat} (hM : ∀ i j, M i j = true → i < n) {i j : Nat} (h : Tg (fun a b => M a b = true) i j) : clos M n i j = true := by
  induction h with
  | one h => exact clos_base h n
  | more _ h ih => exact clos_trans M n _ _ _ (hM _ _ h) ih (clos_base h n)
theorem clos_iff {M : Nat → Nat → Bool} {n : Nat} (hM : ∀ i j, M i j = true → i < n) {i j : Nat} : clos M n i j = true ↔ Tg (fun a b => M a b = true) i j := ⟨clos_sound M n i j, clos_whole hM⟩
theorem tg_left {M : Nat → Nat → Bool} {n : Nat} (hM : ∀ i j, M i j = true → i < n) {i j : Nat} (h : Tg (fun a b => M a b = true) i j) : i < n := by
  induction h with
  | one h => exact hM _ _ h
  | more _ _ ih => exact ih
theorem mat0_lt {ms : List (ByteArray × ByteArray)} {n : Nat} (hn : ms.length ≤ n) : ∀ i j, mat0 ms i j = true → i < n := fun i j h => by have := (mat0_iff.1 h).1; omega
theorem clos_out {ms : List (ByteArray × ByteArray)} {k i j : Nat} (h : ms.length ≤ i) : clos (mat0 ms) k i j = false := by
  cases hh : clos (mat0 ms) k i j with
  | false => rfl
  | true => have := tg_left (mat0_lt (Nat.le_refl ms.length)) (clos_sound _ _ _ _ hh); omega

/- The first thing that is wrong: which, where, what. -/
def cycT : Option Nat → Int × Int × Int
  | some i => ((i : Int), 0, 7)
  | none => (0, 0, 0)
def earlyS (ms : List (ByteArray × ByteArray)) : Int × Int × Int :=
  if 20 < ms.length then (20, 0, 4)
  else if (namesF ms ms.length 0).2 ≠ 0 then ((namesF ms ms.length 0).1, 0, (namesF ms ms.length 0).2)
  else if (textsF ms ms.length 0).2.2 ≠ 0 then textsF ms ms.length 0
  else cycT (cycF (clos (mat0 ms) 20) 20 0)
/-- By which names a name leans on another one. -/
def LeanN (ms : List (ByteArray × ByteArray)) (a b : ByteArray) : Prop := (∃ m ∈ ms, m.1 = a ∧ hasN (wordsS m.2).1 b = true) ∧ ∃ m ∈ ms, m.1 = b
structure Good (ms : List (ByteArray × ByteArray)) : Prop where
  few : ms.length ≤ 20
  named : ∀ m ∈ ms, namedS m.1 = true
  nodup : (ms.map (·.1)).Nodup
  words : ∀ m ∈ ms, (wordsS m.2).2.2 = 0 ∧ ∀ x ∈ (wordsS m.2).1, x.1.kind = 11 → ∃ m' ∈ ms, m'.1 = x.1.name
  acyc : ∀ a, ¬ Tg (LeanN ms) a a
theorem nodup_at {ms : List (ByteArray × ByteArray)} (h : (ms.map (·.1)).Nodup) {i j : Nat} (hi : i < ms.length) (hj : j < ms.length) (e : (atM ms i).1 = (atM ms j).1) : i = j := by
  rw [atM_lt hi, atM_lt hj] at e
  have hp := List.pairwise_iff_getElem.1 h
  rcases Nat.lt_trichotomy i j with q | q | q
  · have := hp i j (by simpa using hi) (by simpa using hj) q
    simp only [List.getElem_map] at this
    exact absurd e this
  · exact q
  · have := hp j i (by simpa using hj) (by simpa using hi) q
    simp only [List.getElem_map] at this
    exact absurd e.symm this
theorem nodup_of {ms : List (ByteArray × ByteArray)} (h : ∀ j, j < ms.length → findM (ms.take j) (atM ms j).1 0 < 0) : (ms.map (·.1)).Nodup := by
  unfold List.Nodup
  rw [List.pairwise_iff_getElem]
  intro i j hi hj hij
  have hi' : i < ms.length := by simpa using hi
  have hj' : j < ms.length := by simpa using hj
  have h1 := findM_neg.1 (h j hj') ms[i] (by
    rw [List.mem_take_iff_getElem]
    exact ⟨i, by omega, rfl⟩)
  rw [atM_lt hj'] at h1
  simpa using h1
theorem nodup_find {ms : List (ByteArray × ByteArray)} (h : (ms.map (·.1)).Nodup) (j : Nat) (hj : j < ms.length) : findM (ms.take j) (atM ms j).1 0 < 0 := by
  rw [findM_neg]
  intro m hm e
  rw [List.mem_take_iff_getElem] at hm
  obtain ⟨i, hi, rfl⟩ := hm
  have := nodup_at h (i := i) (j := j) (by omega) hj (by rw [atM_lt (show i < ms.length by omega)]; exact e)
  omega
theorem lean_tg {ms : List (ByteArray × ByteArray)} {i j : Nat} (h : Tg (fun a b => mat0 ms a b = true) i j) : Tg (LeanN ms) (atM ms i).1 (atM ms j).1 := by
  induction h with
  | one h => obtain ⟨h1, h2, h3⟩ := mat0_iff.1 h; exact Tg.one ⟨⟨_, atM_mem h1, rfl, h3⟩, _, atM_mem h2, rfl⟩
  | more _ h ih => obtain ⟨h1, h2, h3⟩ := mat0_iff.1 h; exact Tg.more ih ⟨⟨_, atM_mem h1, rfl, h3⟩, _, atM_mem h2, rfl⟩
theorem tg_lean {ms : List (ByteArray × ByteArray)} (hn : (ms.map (·.1)).Nodup) {a b : ByteArray} (h : Tg (LeanN ms) a b) : ∃ i j, i < ms.length ∧ j < ms.length ∧ (atM ms i).1 = a ∧ (atM ms j).1 = b ∧ Tg (fun a b => mat0 ms a b = true) i j := by
  induction h with
  | one h =>
    obtain ⟨⟨m, hm, e, h3⟩, m', hm', e'⟩ := h
    obtain ⟨i, hi, rfl⟩ := mem_atM hm
    obtain ⟨j, hj, rfl⟩ := mem_atM hm'
    exact ⟨i, j, hi, hj, e, e', Tg.one (mat0_iff.2 ⟨hi, hj, by rw [e']; exact h3⟩)⟩
  | more _ h ih =>
    obtain ⟨i, k, hi, hk, ei, ek, ht⟩ := ih
    obtain ⟨⟨m, hm, e, h3⟩, m', hm', e'⟩ := h
    obtain ⟨k', hk', rfl⟩ := mem_atM hm
    obtain ⟨j, hj, rfl⟩ := mem_atM hm'
    have : k' = k := nodup_at hn hk' hk (e.trans ek.symm)
    subst this
    exact ⟨i, j, hi, hj, ei, e', Tg.more ht (mat0_iff.2 ⟨hk, hj, by rw [e']; exact h3⟩)⟩
theorem early_good (ms : List (ByteArray × ByteArray)) : (earlyS ms).2.2 = 0 ↔ Good ms := by
  unfold earlyS
  by_cases h0 : 20 < ms.length
  · rw [if_pos h0]; exact ⟨fun q => absurd q (by decide), fun q => by have := q.few; omega⟩
  rw [if_neg h0]
  by_cases h1 : (namesF ms ms.length 0).2 = 0
  · rw [if_neg (by simp [h1])]
    have hN := (namesF_ok ms ms.length 0).1 h1
    have hnd : (ms.map (·.1)).Nodup := nodup_of (fun j hj => (hN j (Nat.zero_le _) (by omega)).2)
    have hnm : ∀ m ∈ ms, namedS m.1 = true := fun m hm => by
      obtain ⟨i, hi, rfl⟩ := mem_atM hm
      exact (hN i (Nat.zero_le _) (by omega)).1
    by_cases h2 : (textsF ms ms.length 0).2.2 = 0
    · rw [if_neg (by simp [h2])]
      have hT := (textsF_ok ms ms.length 0).1 h2
      have hw : ∀ m ∈ ms, (wordsS m.2).2.2 = 0 ∧ ∀ x ∈ (wordsS m.2).1, x.1.kind = 11 → ∃ m' ∈ ms, m'.1 = x.1.name := fun m hm => by
        obtain ⟨i, hi, rfl⟩ := mem_atM hm
        obtain ⟨a, b⟩ := (textF_none ms i).1 (hT i (Nat.zero_le _) (by omega))
        refine ⟨a, fun x hx hk => ?_⟩
        obtain ⟨j, hj, _, e⟩ := findM_lt (b x hx hk)
        exact ⟨_, atM_mem hj, e⟩
      cases h3 : cycF (clos (mat0 ms) 20) 20 0 with
      | some i =>
        refine ⟨fun q => absurd q (by show ¬ (7 : Int) = 0; decide), fun q => ?_⟩
        exfalso
        have : cycF (clos (mat0 ms) 20) 20 0 = none := (cycF_none _ _ _).2 (fun j _ _ => by
          cases hc : clos (mat0 ms) 20 j j with
          | false => rfl
          | true => exact absurd (lean_tg (clos_sound _ _ _ _ hc)) (q.acyc _))
        rw [h3] at this; cases this
      | none =>
        refine ⟨fun _ => ⟨by omega, hnm, hnd, hw, fun a ha => ?_⟩, fun _ => rfl⟩
        obtain ⟨i, j, hi, hj, ei, ej, ht⟩ := tg_lean hnd ha
        have : i = j := nodup_at hnd hi hj (ei.trans ej.symm)
        subst this
        have h4 := clos_whole (mat0_lt (show ms.length ≤ 20 by omega)) ht
        have h5 := (cycF_none _ _ _).1 h3 i (Nat.zero_le _) (by omega)
        rw [h4] at h5; cases h5
    · rw [if_pos h2]
      refine ⟨fun q => absurd q h2, fun q => absurd ((textsF_ok ms ms.length 0).2 (fun j _ hj => (textF_none ms j).2 ?_)) h2⟩
      have := q.words _ (atM_mem (show j < ms.length by omega))
      refine ⟨this.1, fun x hx hk hf => ?_⟩
      obtain ⟨m', hm', e⟩ := this.2 x hx hk
      exact findM_neg.1 hf m' hm' e
  · rw [if_pos h1]
    refine ⟨fun q => absurd q h1, fun q => absurd ((namesF_ok ms ms.length 0).2 (fun j _ hj => ?_)) h1⟩
    exact ⟨q.named _ (atM_mem (by omega)), nodup_find q.nodup j (by omega)⟩
/-- Whatever their order. -/
theorem Good.perm {ms ms' : List (ByteArray × ByteArray)} (h : Good ms) (hm : ∀ m, m ∈ ms ↔ m ∈ ms') (hl : ms'.length = ms.length) (hn : (ms'.map (·.1)).Nodup) : Good ms' := by
  refine ⟨by rw [hl]; exact h.few, fun m q => h.named m ((hm m).2 q), hn, fun m q => ⟨(h.words m ((hm m).2 q)).1, fun x hx hk => ?_⟩, fun a ha => h.acyc a (ha.mono ?_)⟩
  · obtain ⟨m', q', e⟩ := (h.words m ((hm m).2 q)).2 x hx hk
    exact ⟨m', (hm m').1 q', e⟩
  · rintro a b ⟨⟨m, q, e⟩, m', q', e'⟩
    exact ⟨⟨m, (hm m).2 q, e⟩, m', (hm m').2 q', e'⟩

end Go.Proofs.Ytkbfoelffeocmaa

/- Macros in a row; macro.find; a macro in a new variable. -/
namespace Go.Proofs.Ytkbfoelffeocmaa
open Go.RowKit
set_option linter.unusedSimpArgs false
set_option linter.unusedVariables false

def macCs (m : ByteArray × ByteArray) : List Value := [.string m.1, .string m.2]
theorem macCs_one (m : ByteArray × ByteArray) : (macCs m).toArray.all (·.oneCell') = true := by simp [macCs, Value.oneCell']
/-- A list of macros, as it lies. -/
def MacsAt (w : World) (v : Value) (ms : List (ByteArray × ByteArray)) : Prop :=
  ∃ A cap, v = .slice A ms.length cap ∧ ms.length ≤ 9223372036854775807 ∧ (0 < ms.length → ∃ b off, A = some ⟨b, off, none⟩ ∧ b < w.heap.size ∧ ∀ (j : Nat) (h : j < ms.length), w.rangeAt b (off + j * 2) (macCs (atM ms j)))
theorem MacsAt.next {w w' : World} {v : Value} {ms : List (ByteArray × ByteArray)} (h : MacsAt w v ms) (hb : Below w.heap.size w w') : MacsAt w' v ms := by
  obtain ⟨A, cap, h1, h2, h3⟩ := h
  refine ⟨A, cap, h1, h2, fun h0 => ?_⟩
  obtain ⟨b, off, e, hlt, hr⟩ := h3 h0
  exact ⟨b, off, e, Nat.lt_of_lt_of_le hlt hb.size, fun j hj => range_below (hr j hj) hlt (Nat.le_refl _) hb⟩
theorem MacsAt.below {w w' : World} {B : Nat} {v : Value} {ms : List (ByteArray × ByteArray)} (h : MacsAt w v ms) (hB : w.heap.size ≤ B) (hb : Below B w w') : MacsAt w' v ms := h.next (hb.mono hB)
theorem MacsAt.same {w w' : World} {v : Value} {ms : List (ByteArray × ByteArray)} (h : MacsAt w v ms) (e : w'.heap = w.heap) : MacsAt w' v ms := by
  obtain ⟨A, cap, h1, h2, h3⟩ := h
  refine ⟨A, cap, h1, h2, fun h0 => ?_⟩
  obtain ⟨b, off, e1, hlt, hr⟩ := h3 h0
  exact ⟨b, off, e1, by rw [e]; exact hlt, fun j hj i v hv => by have := hr j hj i v hv; unfold World.cell? at this ⊢; rw [e]; exact this⟩
/-- What stands before and behind a cut. -/
theorem MacsAt.len {w : World} {A : Option Addr} {n c : Nat} {ms : List (ByteArray × ByteArray)} (h : MacsAt w (.slice A n c) ms) : n = ms.length := by
  obtain ⟨A', cap, h1, _⟩ := h
  injection h1
theorem MacsAt.take {w : World} {A : Option Addr} {n c : Nat} {ms : List (ByteArray × ByteArray)} (h : MacsAt w (.slice A n c) ms) (i c' : Nat) (hi : i ≤ ms.length) (hc : i ≤ c') : MacsAt w (.slice A i c') (ms.take i) := by
  obtain ⟨A', cap, h1, h2, h3⟩ := h
  injection h1 with e1 e2 e3
  subst e1
  have hl : (ms.take i).length = i := by rw [List.length_take]; omega
  refine ⟨A, c', by rw [hl], by omega, fun h0 => ?_⟩
  obtain ⟨b, off, e, hlt, hr⟩ := h3 (by omega)
  exact ⟨b, off, e, hlt, fun j hj => by rw [atM_take (by omega)]; exact hr j (by omega)⟩
/-- A macro in a new variable. -/
def boxM (w : World) (m : ByteArray × ByteArray) : World := (w.alloc (.cells #[.string { data := #[] }, .string { data := #[] }] 40)).setRow w.heap.size (macCs m).toArray
theorem boxM_at (w : World) (m : ByteArray × ByteArray) : At (boxM w m) w.heap.size 40 (macCs m).toArray := At.row (At.new w 40 _) _
theorem boxM_next (w : World) (m : ByteArray × ByteArray) : Below w.heap.size w (boxM w m) := ((Below.refl _ _).alloc (Nat.le_refl _) _).trans ((Only.row _ _ _).below (Nat.le_refl _))
theorem boxM_size (w : World) (m : ByteArray × ByteArray) : (boxM w m).heap.size = w.heap.size + 1 := by unfold boxM; rw [setRow_size]; simp
theorem str_eq {a b : ByteArray} (h : a = b) : (a.toList == b.toList) = true := by rw [h]; simp
theorem str_ne {a b : ByteArray} (h : ¬ a = b) : (a.toList == b.toList) = false := by
  cases hb : (a.toList == b.toList) with
  | false => rfl
  | true => exact absurd (toList_inj (by simpa using hb)) h

set_option maxRecDepth 100000 in
set_option maxHeartbeats 4000000 in
theorem mFindOne (nm : ByteArray) (g : Nat) (m : ByteArray × ByteArray) (w : World) (hc : w.cell? ⟨g, 0, none⟩ = some (.string nm)) :
    Calls Try.prog 20 #[.agg #[.string m.1, .string m.2], .pointer (some ⟨g, 0, none⟩)] w fun e w' => e = .returned (.bool (m.1.toList == nm.toList)) ∧ Below w.heap.size w w' := by
  have hb : Below w.heap.size w (w.alloc (.cells #[.string m.1, .string m.2] 40)) := (Below.refl _ _).alloc (Nat.le_refl _) _
  have hlt : g < w.heap.size := block_lt_of_cell hc
  have hc' : (w.alloc (.cells #[.string m.1, .string m.2] 40)).cell? ⟨g, 0, none⟩ = some (.string nm) := by rw [World.cell?_of_block (w := w) (hb.block g hlt)]; exact hc
  go_enter Try.func20, Try.ntmps20
  go_wp2_with fail
  go_ret
  exact ⟨rfl, hb⟩

set_option maxRecDepth 100000 in
set_option maxHeartbeats 4000000 in
theorem mIndex (nm : ByteArray) (g : Nat) (ms : List (ByteArray × ByteArray)) (A : Option Addr) (n c : Nat) (w : World) (hm : MacsAt w (.slice A n c) ms) (hc : w.cell? ⟨g, 0, none⟩ = some (.string nm)) :
    Calls Try.prog 19 #[.slice A n c, .func (.func 20) #[] #[.pointer (some ⟨g, 0, none⟩)]] w fun e w' => e = .returned (.int .i64 (findM ms nm 0)) ∧ Below w.heap.size w w' := by
  obtain rfl := hm.len
  have hlt := block_lt_of_cell hc
  have hn := hm.choose_spec.choose_spec.2.1
  have HM := Lib.hid hm
  have HC := Lib.hid hc
  have HG := Lib.hid hlt
  obtain ⟨R, hR⟩ : ∃ R, findM ms nm 0 = R := ⟨_, rfl⟩
  have HR := Lib.hid hR
  rw [hR]
  clear hm hc hlt hR
  go_enter Try.func19, Try.ntmps19
  go_wp2_with fail
  go_loopw [8] (fun i wr => ∃ (j : Nat), j ≤ ms.length ∧ i = .int .i64 j ∧ Hid (findM (ms.drop j) nm j = R) ∧ Hid (Below w.heap.size w wr)) (fun i _ => ms.length - (intOf i).toNat)
  case atStart => exact ⟨0, Nat.zero_le _, rfl, HR, Lib.hid (Below.refl _ _)⟩
  case round =>
    obtain ⟨j, hj, rfl, HJ, HB⟩ := hrel
    by_cases hjl : j < ms.length
    · have hjz : (0 : Int) ≤ (j : Int) := by omega
      have hjn : (j : Int) < (ms.length : Int) := by omega
      obtain ⟨A', cap, e1, _, h3⟩ := (HM.out.next HB.out)
      injection e1 with e1 _ e3
      subst e1
      subst e3
      obtain ⟨b, off, rfl, hb, hr⟩ := h3 (by omega)
      have hrj := hr j hjl
      have HRj := Lib.hid hrj
      have HD : Hid (findM (atM ms j :: ms.drop (j + 1)) nm j = R) := Lib.hid (by rw [atM_lt hjl, ← drop_cons ms j hjl]; exact HJ.out)
      generalize atM ms j = m at HRj HD
      clear hr hrj h3 hb
      have hcw : wr.cell? ⟨g, 0, none⟩ = some (.string nm) := by rw [World.cell?_of_block (w := w) (HB.out.block g HG.out)]; exact HC.out
      go_wp2_with (first
        | (refine wpList_load_mid rfl 40 _ rfl b (off + j * 2) rfl (macCs m) _ HRj.out Try.underlying40 rfl (by kernel_rfl) ?_)
        | fail)
      refine (mFindOne nm g m wr hcw).mono ?_
      rintro e w2 ⟨rfl, hb2⟩
      have HB2 := Lib.hid (HB.out.trans (hb2.mono HB.out.size))
      clear hb2 hcw
      by_cases hnm : m.1 = nm
      · have hnb := str_eq hnm
        have HE : Hid (R = (j : Int)) := Lib.hid (by rw [← HD.out]; unfold findM; rw [if_pos hnm])
        clear hnm
        go_wp2_with fail
        go_ret
        exact ⟨by rw [HE.out]; rfl, HB2.out⟩
      · have hnb := str_ne hnm
        have HD2 : Hid (findM (ms.drop (j + 1)) nm (j + 1) = R) := Lib.hid (by rw [← HD.out]; show _ = (if m.1 = nm then _ else _); rw [if_neg hnm])
        clear hnm
        go_wp2_with fail
        exact ⟨⟨j + 1, by omega, by go_num, HD2, HB2⟩, by simp [intOf]; omega⟩
    · obtain rfl : j = ms.length := by omega
      go_wp2_with fail
      go_ret
      exact ⟨by rw [← HJ.out, List.drop_length]; rfl, HB.out⟩

set_option maxRecDepth 100000 in
set_option maxHeartbeats 4000000 in
theorem mFind (nm : ByteArray) (ms : List (ByteArray × ByteArray)) (A : Option Addr) (n c : Nat) (w : World) (hm : MacsAt w (.slice A n c) ms) :
    Calls Try.prog 13 #[.slice A n c, .string nm] w fun e w' => e = .returned (.int .i64 (findM ms nm 0)) ∧ Below w.heap.size w w' := by
  obtain ⟨w1, hw1⟩ : ∃ w1, w1 = w.alloc (.cells #[.string nm] 9) := ⟨_, rfl⟩
  have HB1 : Hid (Below w.heap.size w w1) := Lib.hid (by rw [hw1]; exact (Below.refl _ _).alloc (Nat.le_refl _) _)
  have HC1 : Hid (w1.cell? ⟨w.heap.size, 0, none⟩ = some (.string nm)) := Lib.hid (by rw [hw1]; exact (At.new w 9 #[.string nm]).cell 0)
  have HM1 := Lib.hid (hm.next HB1.out)
  have HW := Lib.hid hw1
  clear hm hw1
  go_enter Try.func13, Try.ntmps13
  go_wp2_with fail
  rw [← HW.out]
  refine (mIndex nm w.heap.size ms A n c w1 HM1.out HC1.out).mono ?_
  rintro e w2 ⟨rfl, hb2⟩
  have HB2 := Lib.hid (HB1.out.trans (hb2.mono HB1.out.size))
  clear hb2
  go_wp2_with fail
  go_ret
  exact ⟨rfl, HB2.out⟩

end Go.Proofs.Ytkbfoelffeocmaa

/- Which macros lean on which, as a row of cells; macro.byAllWays, firstInCycle. -/
namespace Go.Proofs.Ytkbfoelffeocmaa
open Go.RowKit
set_option linter.unusedSimpArgs false
set_option linter.unusedVariables false

def mCells (M : Nat → Nat → Bool) : Array Value := arr 400 (fun k => .bool (M (k / 20) (k % 20)))
theorem mCells_size (M : Nat → Nat → Bool) : (mCells M).size = 400 := arr_size _ _
theorem mCells_one (M : Nat → Nat → Bool) : (mCells M).all (·.oneCell') = true := arr_all _ _ (fun _ => rfl)
theorem div20 {i j : Nat} (h : j < 20) : (i * 20 + j) / 20 = i := by omega
theorem mod20 {i j : Nat} (h : j < 20) : (i * 20 + j) % 20 = j := by omega
theorem mCells_get (M : Nat → Nat → Bool) {i j : Nat} (hi : i < 20) (hj : j < 20) : (mCells M)[i * 20 + j]? = some (.bool (M i j)) := by
  unfold mCells; rw [arr_get _ _ _ (by omega), div20 hj, mod20 hj]
theorem mCells_congr {M M' : Nat → Nat → Bool} (h : ∀ i j, i < 20 → j < 20 → M i j = M' i j) : mCells M = mCells M' :=
  arr_congr (fun k hk => by rw [h (k / 20) (k % 20) (by omega) (by omega)])
theorem mCells_set (M : Nat → Nat → Bool) {i j : Nat} (hi : i < 20) (hj : j < 20) (v : Bool) : (mCells M).setIfInBounds (i * 20 + j) (.bool v) = mCells (fun a b => if a = i ∧ b = j then v else M a b) := by
  unfold mCells
  rw [arr_set]
  refine arr_congr (fun k hk => ?_)
  by_cases e : k = i * 20 + j
  · subst e; rw [if_pos rfl, div20 hj, mod20 hj]; dsimp only; rw [if_pos ⟨rfl, rfl⟩]
  · rw [if_neg e]; dsimp only; rw [if_neg (by omega)]
def noneM : Nat → Nat → Bool := fun _ _ => false
theorem zero_mat (w : World) : (zeroValue 45).run Try.prog w = .ok (.agg (mCells noneM)) w := (zero_of_info (n := 400) (by kernel_rfl)).1 w

/-- What a turn over v has done, up to row a, column b. -/
def partM (v : Nat) (C : Nat → Nat → Bool) (a b i j : Nat) : Bool := if i < a ∨ (i = a ∧ j < b) then stepM v C i j else C i j
theorem partM_zero (v : Nat) (C : Nat → Nat → Bool) : mCells (partM v C 0 0) = mCells C := mCells_congr (fun i j _ _ => by unfold partM; rw [if_neg (by omega)])
theorem partM_all (v : Nat) (C : Nat → Nat → Bool) : mCells (partM v C 20 0) = mCells (stepM v C) := mCells_congr (fun i j hi _ => by unfold partM; rw [if_pos (by omega)])
theorem partM_row (v : Nat) (C : Nat → Nat → Bool) (a : Nat) : mCells (partM v C a 20) = mCells (partM v C (a + 1) 0) := mCells_congr (fun i j hi hj => by
  unfold partM
  by_cases h : i < a ∨ i = a
  · rw [if_pos (by omega), if_pos (by omega)]
  · rw [if_neg (by omega), if_neg (by omega)])
theorem partM_skip {v : Nat} {C : Nat → Nat → Bool} {a : Nat} (h : C a v = false) : mCells (partM v C a 0) = mCells (partM v C (a + 1) 0) := mCells_congr (fun i j hi hj => by
  unfold partM
  by_cases e : i = a
  · subst e
    rw [if_neg (by omega), if_pos (by omega)]
    unfold stepM
    rw [h]; simp
  · by_cases h2 : i < a
    · rw [if_pos (by omega), if_pos (by omega)]
    · rw [if_neg (by omega), if_neg (by omega)])
theorem partM_here (v : Nat) (C : Nat → Nat → Bool) (a b : Nat) : partM v C a b a b = C a b := by unfold partM; rw [if_neg (by omega)]
theorem partM_col (v : Nat) (C : Nat → Nat → Bool) (a : Nat) : partM v C a 0 a v = C a v := by unfold partM; rw [if_neg (by omega)]
theorem partM_over (v : Nat) (C : Nat → Nat → Bool) (a b : Nat) : partM v C a b v b = C v b := by
  unfold partM
  split
  · unfold stepM; cases C v b <;> simp
  · rfl
theorem partM_put {v : Nat} {C : Nat → Nat → Bool} {a b : Nat} {x : Bool} (hx : x = stepM v C a b) : (fun i j => if i = a ∧ j = b then x else partM v C a b i j) = partM v C a (b + 1) := by
  funext i j
  unfold partM
  by_cases e : i = a ∧ j = b
  · rw [if_pos e, if_pos (by omega), e.1, e.2]; exact hx
  · rw [if_neg e]
    by_cases h2 : i < a ∨ (i = a ∧ j < b)
    · rw [if_pos h2, if_pos (by omega)]
    · rw [if_neg h2, if_neg (by omega)]

set_option maxRecDepth 100000 in
set_option maxHeartbeats 4000000 in
theorem mAllWays (M : Nat → Nat → Bool) (w : World) :
    Calls Try.prog 15 #[.agg (mCells M)] w fun e w' => e = .returned (.agg (mCells (clos M 20))) ∧ Below w.heap.size w w' := by
  have z1 := zero_mat
  obtain ⟨w1, hw1⟩ : ∃ w1, w1 = (w.alloc (.cells (mCells M) 45)).alloc (.cells (mCells noneM) 45) := ⟨_, rfl⟩
  have HA1 : Hid (At w1 w.heap.size 45 (mCells M)) := Lib.hid (by rw [hw1]; exact (At.new _ _ _).alloc _)
  have HZ1 : Hid (At w1 (w.heap.size + 1) 45 (mCells noneM)) := Lib.hid (by rw [hw1]; exact at_new' (w.alloc (.cells (mCells M) 45)) (w.heap.size + 1) 45 (by simp))
  have HB1 : Hid (Below w.heap.size w w1) := Lib.hid (by rw [hw1]; exact below_two _ _)
  have HW1 := Lib.hid hw1
  clear hw1
  go_enter Try.func15, Try.ntmps15
  go_wp2_with fail
  clear z1
  rw [← HW1.out]
  go_loopw [6] (fun i wr => ∃ v : Nat, v ≤ 20 ∧ i = .int .i64 v ∧ Hid (At wr w.heap.size 45 (mCells (clos M v))) ∧ Hid (At wr (w.heap.size + 1) 45 (mCells noneM)) ∧ Hid (Below w.heap.size w wr)) (fun i _ => 20 - (intOf i).toNat)
  case atStart => exact ⟨0, Nat.zero_le _, rfl, HA1, HZ1, HB1⟩
  case round =>
    clear HA1 HZ1 HB1 HW1
    obtain ⟨v, hv, rfl, HA, HZ, HB⟩ := hrel
    by_cases hvl : v < 20
    · have hvz : (0 : Int) ≤ (v : Int) := by omega
      have hvn : (v : Int) < 20 := by omega
      obtain ⟨C, hC⟩ : ∃ C, clos M v = C := ⟨_, rfl⟩
      have HC : Hid (clos M (v + 1) = stepM v C) := Lib.hid (by rw [← hC]; rfl)
      rw [hC] at HA
      clear hC
      go_wp2_with fail
      go_loopw [9] (fun i wr => ∃ a : Nat, a ≤ 20 ∧ i = .int .i64 a ∧ Hid (At wr w.heap.size 45 (mCells (partM v C a 0))) ∧ Hid (At wr (w.heap.size + 1) 45 (mCells noneM)) ∧ Hid (Below w.heap.size w wr)) (fun i _ => 20 - (intOf i).toNat)
      case atStart => exact ⟨0, Nat.zero_le _, rfl, by rw [partM_zero]; exact HA, HZ, HB⟩
      case round =>
        clear HA HZ HB
        obtain ⟨a, ha, rfl, HA, HZ, HB⟩ := hrel
        by_cases hal : a < 20
        · have haz : (0 : Int) ≤ (a : Int) := by omega
          have han : (a : Int) < 20 := by omega
          have q0 := HA.out.cell (a * 20 + v)
          rw [mCells_get _ hal hvl, partM_col] at q0
          cases hcv : C a v with
          | false =>
            rw [hcv] at q0
            have HS := Lib.hid (partM_skip hcv)
            clear hcv
            go_wp2_with fail
            exact ⟨⟨a + 1, by omega, by go_num, by rw [← HS.out]; exact HA, HZ, HB⟩, by simp [intOf]; omega⟩
          | true =>
            rw [hcv] at q0
            have HCV := Lib.hid hcv
            clear hcv
            go_wp2_with fail
            clear q0
            go_loopw [18] (fun i wr => ∃ b : Nat, b ≤ 20 ∧ i = .int .i64 b ∧ Hid (At wr w.heap.size 45 (mCells (partM v C a b))) ∧ Hid (At wr (w.heap.size + 1) 45 (mCells noneM)) ∧ Hid (Below w.heap.size w wr)) (fun i _ => 20 - (intOf i).toNat)
            case atStart => exact ⟨0, Nat.zero_le _, rfl, HA, HZ, HB⟩
            case round =>
              clear HA HZ HB
              obtain ⟨b, hb, rfl, HA, HZ, HB⟩ := hrel
              by_cases hbl : b < 20
              · have hbz : (0 : Int) ≤ (b : Int) := by omega
                have hbn : (b : Int) < 20 := by omega
                have q1 := HA.out.cell (a * 20 + b)
                rw [mCells_get _ hal hbl, partM_here] at q1
                have f1 := HA.out.free (a * 20 + b)
                have q2 := HA.out.cell (v * 20 + b)
                rw [mCells_get _ hvl hbl, partM_over] at q2
                have HN : ∀ x, x = stepM v C a b → Hid (At (wr.setCell ⟨w.heap.size, a * 20 + b, none⟩ (.bool x)) w.heap.size 45 (mCells (partM v C a (b + 1)))) := fun x hx => Lib.hid (by
                  have h := HA.out.set (a * 20 + b) (.bool x)
                  rw [mCells_set _ hal hbl, partM_put hx] at h
                  exact h)
                have HNN := Lib.hid HN
                clear HN
                cases hab : C a b with
                | true =>
                  rw [hab] at q1
                  have HN1 := HNN.out true (by unfold stepM; rw [hab]; rfl)
                  clear hab
                  go_wp2_with fail
                  go_region
                  go_wp2_with fail
                  exact ⟨⟨b + 1, by omega, by go_num, HN1.out.drew, (HZ.out.other (p := ⟨w.heap.size, a * 20 + b, none⟩) (by dsimp only; omega) _).drew, (HB.out.setCell (p := ⟨w.heap.size, a * 20 + b, none⟩) (by dsimp only; omega) _).drew⟩, by simp [intOf]; omega⟩
                | false =>
                  rw [hab] at q1
                  have HN1 := HNN.out (C v b) (by unfold stepM; rw [hab, HCV.out]; rfl)
                  clear hab
                  go_wp2_with fail
                  go_region
                  go_wp2_with fail
                  exact ⟨⟨b + 1, by omega, by go_num, HN1.out.drew, (HZ.out.other (p := ⟨w.heap.size, a * 20 + b, none⟩) (by dsimp only; omega) _).drew, (HB.out.setCell (p := ⟨w.heap.size, a * 20 + b, none⟩) (by dsimp only; omega) _).drew⟩, by simp [intOf]; omega⟩
              · obtain rfl : b = 20 := by omega
                go_wp2_with fail
                exact ⟨⟨a + 1, by omega, by go_num, by rw [← partM_row]; exact HA, HZ, HB⟩, by simp [intOf]; omega⟩
        · obtain rfl : a = 20 := by omega
          go_wp2_with fail
          exact ⟨⟨v + 1, by omega, by go_num, by rw [HC.out, ← partM_all]; exact HA, HZ, HB⟩, by simp [intOf]; omega⟩
    · obtain rfl : v = 20 := by omega
      have hone := mCells_one (clos M 20)
      go_wp2_with (first
        | (refine wpList_load_row rfl 45 _ rfl w.heap.size rfl 45 (mCells (clos M 20)) (0, 0) _ HA.out Try.underlying45 rfl (by rw [mCells_size]; kernel_rfl) ?_)
        | (with_reducible show wpList _ _ _ ({ dst := none, op := .store _ _ _, type := _, pos := _, after := _, guard := _ } :: _) _ _
           refine wpList_store_row rfl 45 _ _ rfl (w.heap.size + 1) (mCells (clos M 20)) rfl rfl 45 (mCells noneM) HZ.out (by rw [mCells_size]; kernel_rfl) (by rw [mCells_size, mCells_size]) hone ?_)
        | fail)
      have ho : Only (w.heap.size + 1) wr (wr.setRow (w.heap.size + 1) (mCells (clos M 20))) := Only.row _ _ _
      exact bodyPost_ret (results_cell_row Try.results15 _ _ (w.heap.size + 1) 45 (mCells (clos M 20)) (0, 0) _ rfl (HZ.out.row _) Try.underlying45 rfl (by rw [mCells_size]; kernel_rfl)) rfl ⟨rfl, HB.out.trans (ho.below (by omega))⟩

end Go.Proofs.Ytkbfoelffeocmaa

/- What macros stand for: the solution, made one by one. -/
namespace Go.Proofs.Ytkbfoelffeocmaa
open Go.RowKit
set_option linter.unusedSimpArgs false
set_option linter.unusedVariables false

/- A formed pattern has at most 1000 nodes. -/
theorem sumS_mass (k : Nat) : ∀ (l : List Tr), (∀ p ∈ l, 1 ≤ sizeS k p) → (∀ p ∈ l, sizeS k p ≤ 1000 → (massS k p : Int) ≤ sizeS k p) → sumS (l.map (sizeS k)) ≤ 1000 → ((l.map (massS k)).sum : Int) ≤ sumS (l.map (sizeS k)) := by
  have key : ∀ r : List Tr, (∀ p ∈ r, 1 ≤ sizeS k p) → (∀ p ∈ r, sizeS k p ≤ 1000 → (massS k p : Int) ≤ sizeS k p) → sumS (r.map (sizeS k)).reverse ≤ 1000 → ((r.map (massS k)).sum : Int) ≤ sumS (r.map (sizeS k)).reverse := fun r => by
    induction r with
    | nil => exact fun _ _ _ => by show (0 : Int) ≤ sumS []; exact Int.le_refl 0
    | cons a r ih =>
      intro h0 h1 h2
      have em : ((a :: r).map (sizeS k)).reverse = (r.map (sizeS k)).reverse ++ [sizeS k a] := by rw [List.map_cons, List.reverse_cons]
      rw [em, sumS_snoc] at h2 ⊢
      have hge : 0 ≤ sumS (r.map (sizeS k)).reverse := sumS_ge _ (fun x hx => by
        rw [List.mem_reverse, List.mem_map] at hx
        obtain ⟨p, _, rfl⟩ := hx
        exact sizeS_ge k p)
      have ha := h0 a (by simp)
      have hc : ¬ 1001 < sumS (r.map (sizeS k)).reverse + sizeS k a := fun q => by rw [cut1001_yes q] at h2; omega
      rw [cut1001_no hc] at h2 ⊢
      have h3 := ih (fun p hp => h0 p (List.mem_cons_of_mem _ hp)) (fun p hp => h1 p (List.mem_cons_of_mem _ hp)) (by omega)
      have h4 := h1 a (by simp) (by omega)
      rw [List.map_cons, List.sum_cons]
      omega
  intro l h0 h1 h2
  have h5 : (l.reverse.map (sizeS k)).reverse = l.map (sizeS k) := by rw [List.map_reverse, List.reverse_reverse]
  have h6 : (l.reverse.map (massS k)).sum = (l.map (massS k)).sum := by rw [List.map_reverse, List.sum_reverse]
  have := key l.reverse (fun p hp => h0 p (by simpa using hp)) (fun p hp => h1 p (by simpa using hp)) (by rw [h5]; exact h2)
  rw [h5, h6] at this
  exact this
theorem mass_size : ∀ (k : Nat) (t : Tr), Tr.Lv k t → sizeS k t ≤ 1000 → (massS k t : Int) ≤ sizeS k t
  | 0, _, h, _ => h.elim
  | k + 1, t, hl, h => by
    have hs := size_sum h
    have h0 : 0 ≤ sumS (t.parts.map (sizeS k)) := by
      have := sizeTo_ge k t t.parts.length
      unfold sizeTo at this
      rwa [List.take_length] at this
    have h1 := sumS_mass k t.parts (fun p hp => size_pos k p (hl p hp)) (fun p hp q => mass_size k p (hl p hp) q) (by omega)
    have h' : cut1001 ((if t.kind = 7 then sumS (t.parts.map (sizeS k)) * timesS t.lo t.hi else sumS (t.parts.map (sizeS k))) + 1) ≤ 1000 := h
    have h2 : sumS (t.parts.map (sizeS k)) + 1 ≤ cut1001 ((if t.kind = 7 then sumS (t.parts.map (sizeS k)) * timesS t.lo t.hi else sumS (t.parts.map (sizeS k))) + 1) := by
      have hm : sumS (t.parts.map (sizeS k)) * 1 ≤ sumS (t.parts.map (sizeS k)) * timesS t.lo t.hi := Int.mul_le_mul_of_nonneg_left (times_pos _ _) h0
      rw [Int.mul_one] at hm
      unfold cut1001 at h' ⊢
      (repeat' split at h') <;> (repeat' split) <;> omega
    show ((1 + (t.parts.map (massS k)).sum : Nat) : Int) ≤ _
    have h3 : sizeS (k + 1) t = cut1001 ((if t.kind = 7 then sumS (t.parts.map (sizeS k)) * timesS t.lo t.hi else sumS (t.parts.map (sizeS k))) + 1) := rfl
    rw [h3]
    omega
theorem deep_lv : ∀ (k m : Nat) (t : Tr), Tr.Lv k t → deepS k m t ≤ m → Tr.Lv m t
  | 0, _, _, h, _ => h.elim
  | k + 1, m, t, h, hd => by
    have h1 : 1 ≤ m := by
      rcases Nat.eq_zero_or_pos m with q | q
      · subst q
        have : deepS (k + 1) ((0 : Nat) : Int) t = 1 := by show (if ((0 : Nat) : Int) < 1 then 1 else _) = 1; rw [if_pos (by decide)]
        omega
      · exact q
    obtain ⟨m', rfl⟩ : ∃ m', m = m' + 1 := ⟨m - 1, by omega⟩
    intro p hp
    obtain ⟨j, hj, rfl⟩ := List.getElem_of_mem hp
    have := (deep_part hd hj).2
    exact deep_lv k m' _ (h _ hp) (by have e : ((m' + 1 : Nat) : Int) - 1 = (m' : Int) := by omega
                                      rw [e] at this; exact this)
theorem FormedT.lv40 {t : Tr} (h : FormedT t) : Tr.Lv 40 t ∧ isFormed 40 t = true := by
  obtain ⟨k, hl, hf⟩ := id h
  have h40 : Tr.Lv 40 t := deep_lv k 40 t hl (isFormed_deep hf)
  exact ⟨h40, h.at h40⟩
theorem formed_mass {T : Tr} (h : FormedT T) : ∀ k, massS k (T.strip 40) ≤ 1000 := by
  obtain ⟨hl, hf⟩ := h.lv40
  have hs : sizeS 40 T ≤ 1000 := by
    unfold isFormed at hf
    rw [Bool.and_eq_true, Bool.and_eq_true] at hf
    have := of_decide_eq_true hf.2.2
    omega
  have h1 := mass_size 40 T hl hs
  have h2 := mass_strip 40 0 T
  rw [Nat.add_zero] at h2
  exact mass_all (Tr.Lv.strip 40 T hl) (by omega)

def dsOf (ms : List (ByteArray × ByteArray)) (F : ByteArray → Tr) : List (ByteArray × Tr) := ms.map (fun m => (m.1, F m.1))
theorem dsOf_length (ms : List (ByteArray × ByteArray)) (F : ByteArray → Tr) : (dsOf ms F).length = ms.length := List.length_map _
theorem dsOf_at {ms : List (ByteArray × ByteArray)} {F : ByteArray → Tr} {j : Nat} (h : j < (dsOf ms F).length) : (dsOf ms F)[j] = ((atM ms j).1, F (atM ms j).1) := by
  have h' : j < ms.length := by rw [dsOf_length] at h; exact h
  rw [atM_lt h']
  exact List.getElem_map _
def vS (s : ByteArray) (ds : List (ByteArray × Tr)) : Tr := (pS s ds).1.strip 40
def OkS (s : ByteArray) (ds : List (ByteArray × Tr)) : Prop := (pS s ds).2.flt = 0 ∧ FormedT (pS s ds).1
/-- What each name stands for. -/
def Sol (ms : List (ByteArray × ByteArray)) (F : ByteArray → Tr) : Prop := ∀ m ∈ ms, OkS m.2 (dsOf ms F) ∧ F m.1 = vS m.2 (dsOf ms F)
theorem look_dsOf (F : ByteArray → Tr) (x : Wd × Nat) (s : PSt) : ∀ ms : List (ByteArray × ByteArray), (∃ m ∈ ms, m.1 = x.1.name) → lookS (dsOf ms F) x s = (F x.1.name, s)
  | [], h => by obtain ⟨m, hm, _⟩ := h; exact absurd hm List.not_mem_nil
  | m :: r, h => by
    show (if m.1 = x.1.name then (F m.1, s) else lookS (dsOf r F) x s) = _
    by_cases e : m.1 = x.1.name
    · rw [if_pos e, e]
    · rw [if_neg e]
      obtain ⟨m', hm', e'⟩ := h
      rcases List.mem_cons.1 hm' with rfl | q
      · exact absurd e' e
      · exact look_dsOf F x s r ⟨m', q, e'⟩
theorem sameOn_of {ws : List (Wd × Nat)} {ms ms' : List (ByteArray × ByteArray)} {F F' : ByteArray → Tr} (h : ∀ x ∈ ws, x.1.kind = 11 → (∃ m ∈ ms, m.1 = x.1.name) ∧ (∃ m ∈ ms', m.1 = x.1.name) ∧ F x.1.name = F' x.1.name) : SameOn ws (dsOf ms F) (dsOf ms' F') := fun x hx hk s => by
  obtain ⟨a, b, c⟩ := h x hx hk
  rw [look_dsOf F x s ms a, look_dsOf F' x s ms' b, c]
theorem allIn_of {ws : List (Wd × Nat)} {ms : List (ByteArray × ByteArray)} {F : ByteArray → Tr} (h : ∀ x ∈ ws, x.1.kind = 11 → ∃ m ∈ ms, m.1 = x.1.name) : AllIn ws (dsOf ms F) := fun x hx hk => by
  obtain ⟨m, hm, e⟩ := h x hx hk
  exact ⟨(m.1, F m.1), List.mem_map_of_mem hm, e⟩
theorem ds_mass {ms : List (ByteArray × ByteArray)} {F : ByteArray → Tr} {W : Nat} (h : ∀ nm k, massS k (F nm) ≤ W) : ∀ d ∈ dsOf ms F, ∀ k, massS k d.2 ≤ W := fun d hd k => by
  obtain ⟨m, _, rfl⟩ := List.mem_map.1 hd
  exact h _ k
/-- Whatever the order of the macros. -/
theorem Sol.perm {ms ms' : List (ByteArray × ByteArray)} {F : ByteArray → Tr} (hg : Good ms) (h : Sol ms F) (hm : ∀ m, m ∈ ms ↔ m ∈ ms') : Sol ms' F := fun m q => by
  have q' := (hm m).2 q
  have e : pS m.2 (dsOf ms F) = pS m.2 (dsOf ms' F) := pS_ag (sameOn_of (fun x hx hk => by
    obtain ⟨m', q1, e⟩ := (hg.words m q').2 x hx hk
    exact ⟨⟨m', q1, e⟩, ⟨m', (hm m').1 q1, e⟩, rfl⟩))
  have h1 := h m q'
  unfold OkS vS at h1 ⊢
  rw [e] at h1
  exact h1

/- Made one by one. -/
def setB (dn : Nat → Bool) (i j : Nat) : Bool := if j = i then true else dn j
def setF (F : ByteArray → Tr) (nm : ByteArray) (V : Tr) (x : ByteArray) : Tr := if x = nm then V else F x
structure SolTo (ms : List (ByteArray × ByteArray)) (dn : Nat → Bool) (F : ByteArray → Tr) : Prop where
  deps : ∀ j, j < ms.length → dn j = true → ∀ k, mat0 ms j k = true → dn k = true
  ok : ∀ j, j < ms.length → dn j = true → OkS (atM ms j).2 (dsOf ms F) ∧ F (atM ms j).1 = vS (atM ms j).2 (dsOf ms F)
  only : ∀ G, Sol ms G → ∀ j, j < ms.length → dn j = true → F (atM ms j).1 = G (atM ms j).1
  mass : ∀ nm k, massS k (F nm) ≤ 1000
theorem SolTo.start (ms : List (ByteArray × ByteArray)) : SolTo ms (fun _ => false) (fun _ => Tr.blank) :=
  ⟨fun _ _ h => (by cases h), fun _ _ h => (by cases h), fun _ _ _ _ h => (by cases h), fun _ k => by
    have : massS k Tr.blank = 1 := by cases k <;> rfl
    omega⟩
/-- The words of one macro, whose names are done, say the same. -/
theorem words_same {ms : List (ByteArray × ByteArray)} (hg : Good ms) {i : Nat} (hi : i < ms.length) {dn : Nat → Bool} {F G : ByteArray → Tr} (hd : ∀ k, mat0 ms i k = true → dn k = true) (hFG : ∀ k, k < ms.length → dn k = true → F (atM ms k).1 = G (atM ms k).1) :
    pS (atM ms i).2 (dsOf ms F) = pS (atM ms i).2 (dsOf ms G) := pS_ag (sameOn_of (fun x hx hk => by
  obtain ⟨m', q, e⟩ := (hg.words _ (atM_mem hi)).2 x hx hk
  obtain ⟨k, hkl, rfl⟩ := mem_atM q
  have h1 := hd k (mat0_iff.2 ⟨hi, hkl, hasN_iff.2 ⟨x, hx, hk, e.symm⟩⟩)
  exact ⟨⟨_, q, e⟩, ⟨_, q, e⟩, by rw [← e]; exact hFG k hkl h1⟩))
theorem SolTo.step {ms : List (ByteArray × ByteArray)} {dn : Nat → Bool} {F : ByteArray → Tr} {i : Nat} (hg : Good ms) (h : SolTo ms dn F) (hi : i < ms.length) (hdn : dn i = false) (hdep : ∀ k, mat0 ms i k = true → dn k = true) (hok : OkS (atM ms i).2 (dsOf ms F)) :
    SolTo ms (setB dn i) (setF F (atM ms i).1 (vS (atM ms i).2 (dsOf ms F))) := by
  have hne : ∀ k, k < ms.length → dn k = true → (atM ms k).1 ≠ (atM ms i).1 := fun k hk hd e => by
    have := nodup_at hg.nodup hk hi e
    rw [this, hdn] at hd; cases hd
  have keep : ∀ k, k < ms.length → dn k = true → F (atM ms k).1 = setF F (atM ms i).1 (vS (atM ms i).2 (dsOf ms F)) (atM ms k).1 := fun k hk hd => by
    unfold setF; rw [if_neg (hne k hk hd)]
  have same : ∀ j, j < ms.length → (∀ k, mat0 ms j k = true → dn k = true) → pS (atM ms j).2 (dsOf ms F) = pS (atM ms j).2 (dsOf ms (setF F (atM ms i).1 (vS (atM ms i).2 (dsOf ms F)))) := fun j hj hd => words_same hg hj hd keep
  have up : ∀ k, dn k = true → setB dn i k = true := fun k hk => by unfold setB; split; rfl; exact hk
  have own : setF F (atM ms i).1 (vS (atM ms i).2 (dsOf ms F)) (atM ms i).1 = vS (atM ms i).2 (dsOf ms F) := by unfold setF; rw [if_pos rfl]
  refine ⟨fun j hj hd k hk => ?_, fun j hj hd => ?_, fun G hG j hj hd => ?_, fun nm k => ?_⟩
  · by_cases e : j = i
    · subst e; exact up k (hdep k hk)
    · unfold setB at hd
      rw [if_neg e] at hd
      exact up k (h.deps j hj hd k hk)
  · by_cases e : j = i
    · subst e
      have := same j hj hdep
      refine ⟨?_, ?_⟩
      · unfold OkS at hok ⊢
        rw [← this]; exact hok
      · rw [own]
        exact congrArg (fun x => Tr.strip 40 x.1) this
    · unfold setB at hd
      rw [if_neg e] at hd
      have h1 := h.ok j hj hd
      have h2 := same j hj (h.deps j hj hd)
      have h3 := keep j hj hd
      unfold OkS at h1 ⊢
      rw [← h3]
      unfold vS at h1 ⊢
      unfold vS at h2
      rw [← h2]
      exact h1
  · by_cases e : j = i
    · subst e
      rw [own, (hG _ (atM_mem hj)).2]
      unfold vS
      rw [words_same hg hj hdep (fun k hk hd' => h.only G hG k hk hd')]
    · unfold setB at hd
      rw [if_neg e] at hd
      rw [← keep j hj hd]
      exact h.only G hG j hj hd
  · unfold setF
    split
    · exact formed_mass hok.2 k
    · exact h.mass nm k
theorem SolTo.fail {ms : List (ByteArray × ByteArray)} {dn : Nat → Bool} {F : ByteArray → Tr} {i : Nat} (hg : Good ms) (h : SolTo ms dn F) (hi : i < ms.length) (hdep : ∀ k, mat0 ms i k = true → dn k = true) (hok : ¬ OkS (atM ms i).2 (dsOf ms F)) : ∀ G, ¬ Sol ms G := fun G hG => by
  have e := words_same hg hi hdep (fun k hk hd' => h.only G hG k hk hd')
  have h1 := (hG _ (atM_mem hi)).1
  unfold OkS at h1 hok
  rw [← e] at h1
  exact hok h1
theorem SolTo.done {ms : List (ByteArray × ByteArray)} {dn : Nat → Bool} {F : ByteArray → Tr} (h : SolTo ms dn F) (hd : ∀ j, j < ms.length → dn j = true) : Sol ms F ∧ ∀ G, Sol ms G → ∀ m ∈ ms, F m.1 = G m.1 :=
  ⟨fun m hm => by obtain ⟨j, hj, rfl⟩ := mem_atM hm; exact h.ok j hj (hd j hj), fun G hG m hm => by obtain ⟨j, hj, rfl⟩ := mem_atM hm; exact h.only G hG j hj (hd j hj)⟩

/- The next one: there is one, while some are left. -/
def mayS (ms : List (ByteArray × ByteArray)) (dn : Nat → Bool) (i : Nat) : Bool := !dn i && (List.range ms.length).all (fun k => !mat0 ms i k || dn k)
theorem mayS_iff {ms : List (ByteArray × ByteArray)} {dn : Nat → Bool} {i : Nat} : mayS ms dn i = true ↔ dn i = false ∧ ∀ k, mat0 ms i k = true → dn k = true := by
  unfold mayS
  rw [Bool.and_eq_true, List.all_eq_true]
  constructor
  · rintro ⟨h1, h2⟩
    refine ⟨by simpa using h1, fun k hk => ?_⟩
    have := h2 k (List.mem_range.2 (mat0_iff.1 hk).2.1)
    rw [hk] at this
    simpa using this
  · rintro ⟨h1, h2⟩
    refine ⟨by rw [h1]; rfl, fun k _ => ?_⟩
    cases h : mat0 ms i k with
    | false => rfl
    | true => rw [h2 k h]; rfl
/-- Of some numbers that lean on one another without a ring, one leans on none of them. -/
theorem least_of (R : Nat → Nat → Prop) (htr : ∀ a b c, R a b → R b c → R a c) (hir : ∀ a, ¬ R a a) : ∀ l : List Nat, l ≠ [] → ∃ m ∈ l, ∀ s ∈ l, ¬ R m s
  | [], h => absurd rfl h
  | x :: r, _ => by
    by_cases h0 : r = []
    · subst h0
      exact ⟨x, by simp, fun s hs => by have : s = x := by simpa using hs
                                        rw [this]; exact hir x⟩
    · obtain ⟨m, hm, hmin⟩ := least_of R htr hir r h0
      by_cases hx : R m x
      · refine ⟨x, by simp, fun s hs q => ?_⟩
        rcases List.mem_cons.1 hs with rfl | hs
        · exact hir _ q
        · exact hmin s hs (htr _ _ _ hx q)
      · refine ⟨m, List.mem_cons_of_mem _ hm, fun s hs q => ?_⟩
        rcases List.mem_cons.1 hs with rfl | hs
        · exact hx q
        · exact hmin s hs q
theorem may_one {ms : List (ByteArray × ByteArray)} (hg : Good ms) {dn : Nat → Bool} {j : Nat} (hj : j < ms.length) (hd : dn j = false) : ∃ i, i < ms.length ∧ mayS ms dn i = true := by
  obtain ⟨m, hm, hmin⟩ := least_of (Tg (fun a b => mat0 ms a b = true)) (fun _ _ _ => Tg.trans) (fun a ha => hg.acyc _ (lean_tg ha)) ((List.range ms.length).filter (fun i => !dn i)) (fun e => by
    have : j ∈ (List.range ms.length).filter (fun i => !dn i) := List.mem_filter.2 ⟨List.mem_range.2 hj, by rw [hd]; rfl⟩
    rw [e] at this
    exact absurd this List.not_mem_nil)
  obtain ⟨h1, h2⟩ := List.mem_filter.1 hm
  refine ⟨m, List.mem_range.1 h1, mayS_iff.2 ⟨by simpa using h2, fun k hk => ?_⟩⟩
  cases hdk : dn k with
  | true => rfl
  | false => exact absurd (Tg.one (R := fun a b => mat0 ms a b = true) hk) (hmin k (List.mem_filter.2 ⟨List.mem_range.2 (mat0_iff.1 hk).2.1, by rw [hdk]; rfl⟩))
/-- The first one from i on. -/
def nextF (ms : List (ByteArray × ByteArray)) (dn : Nat → Bool) : Nat → Nat → Int
  | 0, _ => -1
  | k + 1, i => if mayS ms dn i = true then (i : Int) else nextF ms dn k (i + 1)
theorem nextF_some (ms : List (ByteArray × ByteArray)) (dn : Nat → Bool) : ∀ k i, (∃ j, i ≤ j ∧ j < i + k ∧ mayS ms dn j = true) → ∃ j, i ≤ j ∧ j < i + k ∧ mayS ms dn j = true ∧ nextF ms dn k i = (j : Int)
  | 0, i, h => by obtain ⟨j, h1, h2, _⟩ := h; omega
  | k + 1, i, h => by
    unfold nextF
    by_cases e : mayS ms dn i = true
    · rw [if_pos e]; exact ⟨i, Nat.le_refl _, by omega, e, rfl⟩
    · rw [if_neg e]
      obtain ⟨j, h1, h2, h3⟩ := h
      have hne : j ≠ i := fun q => e (by rw [← q]; exact h3)
      obtain ⟨j', h4, h5, h6, h7⟩ := nextF_some ms dn k (i + 1) ⟨j, by omega, by omega, h3⟩
      exact ⟨j', by omega, by omega, h6, h7⟩

end Go.Proofs.Ytkbfoelffeocmaa

/- macro.firstInCycle, mayBeNext, next. -/
namespace Go.Proofs.Ytkbfoelffeocmaa
open Go.RowKit
set_option linter.unusedSimpArgs false
set_option linter.unusedVariables false

def cycRes (o : Option Nat) : Value := match o with | some i => .tuple #[.int .i64 i, .bool true] | none => .tuple #[.int .i64 0, .bool false]

set_option maxRecDepth 100000 in
set_option maxHeartbeats 4000000 in
theorem mCycle (M : Nat → Nat → Bool) (w : World) :
    Calls Try.prog 10 #[.agg (mCells M)] w fun e w' => e = .returned (cycRes (cycF (clos M 20) 20 0)) ∧ Below w.heap.size w w' := by
  have z1 := zero_mat
  obtain ⟨w1, hw1⟩ : ∃ w1, w1 = w.alloc (.cells (mCells M) 45) := ⟨_, rfl⟩
  have HA1 : Hid (At w1 w.heap.size 45 (mCells M)) := Lib.hid (by rw [hw1]; exact At.new _ _ _)
  have HB1 : Hid (Below w.heap.size w w1) := Lib.hid (by rw [hw1]; exact (Below.refl _ _).alloc (Nat.le_refl _) _)
  have HA0 : Hid (At (w.alloc (.cells (mCells M) 45)) w.heap.size 45 (mCells M)) := Lib.hid (At.new _ _ _)
  have HW1 := Lib.hid hw1
  obtain ⟨C, hC⟩ : ∃ C, clos M 20 = C := ⟨_, rfl⟩
  obtain ⟨R, hR⟩ : ∃ R, cycF C 20 0 = R := ⟨_, rfl⟩
  have HC := Lib.hid hC
  have HR := Lib.hid hR
  rw [hC, hR]
  clear hw1 hC hR
  go_enter Try.func10, Try.ntmps10
  go_wp2_with (first
    | (refine wpList_load_row rfl 45 _ rfl w.heap.size rfl 45 (mCells M) (0, 0) _ HA0.out Try.underlying45 rfl (by rw [mCells_size]; kernel_rfl) ?_)
    | fail)
  rw [← HW1.out]
  refine (mAllWays M w1).mono ?_
  rintro e w2 ⟨rfl, hb2⟩
  rw [HC.out]
  have HB2 := Lib.hid (HB1.out.trans (hb2.mono HB1.out.size))
  have hone := mCells_one C
  clear hb2
  go_wp2_with (first
    | (with_reducible show wpList _ _ _ ({ dst := none, op := .store _ _ _, type := _, pos := _, after := _, guard := _ } :: _) _ _
       refine wpList_store_row rfl 45 _ _ rfl w2.heap.size (mCells C) rfl rfl 45 (mCells noneM) (At.new _ _ _) (by rw [mCells_size]; kernel_rfl) (by rw [mCells_size, mCells_size]) hone ?_)
    | fail)
  clear z1
  have HA3 : Hid (At ((w2.alloc (.cells (mCells noneM) 45)).setRow w2.heap.size (mCells C)) w2.heap.size 45 (mCells C)) := Lib.hid (At.row (At.new w2 _ _) _)
  have HB3 : Hid (Below w.heap.size w ((w2.alloc (.cells (mCells noneM) 45)).setRow w2.heap.size (mCells C))) := Lib.hid (HB2.out.trans ((((Below.refl _ _).alloc (Nat.le_refl _) _).trans ((Only.row _ _ _).below (Nat.le_refl _))).mono HB2.out.size))
  generalize (w2.alloc (.cells (mCells noneM) 45)).setRow w2.heap.size (mCells C) = w3 at HA3 HB3 ⊢
  go_loopw [8] (fun i wr => ∃ j : Nat, j ≤ 20 ∧ i = .int .i64 j ∧ Hid (cycF C (20 - j) j = R) ∧ Hid (wr = w3)) (fun i _ => 20 - (intOf i).toNat)
  case atStart => exact ⟨0, Nat.zero_le _, rfl, HR, Lib.hid rfl⟩
  case round =>
    obtain ⟨j, hj, rfl, HJ, HE⟩ := hrel
    obtain rfl := HE.out
    by_cases hjl : j < 20
    · have hjz : (0 : Int) ≤ (j : Int) := by omega
      have hjn : (j : Int) < 20 := by omega
      have q0 := HA3.out.cell (j * 20 + j)
      rw [mCells_get _ hjl hjl] at q0
      have HJ2 : Hid ((if C j j = true then some j else cycF C (20 - (j + 1)) (j + 1)) = R) := Lib.hid (by
        have := HJ.out
        rw [show 20 - j = (20 - (j + 1)) + 1 by omega] at this
        exact this)
      cases hc : C j j with
      | true =>
        rw [hc] at q0
        have HE2 : Hid (R = some j) := Lib.hid (by rw [← HJ2.out, if_pos hc])
        clear hc
        go_wp2_with fail
        exact bodyPost_ret (v := .tuple #[.int .i64 j, .bool true]) (by simp [results, Try.results10, go_sem]) rfl ⟨by rw [HE2.out]; rfl, HB3.out⟩
      | false =>
        rw [hc] at q0
        have HJ3 : Hid (cycF C (20 - (j + 1)) (j + 1) = R) := Lib.hid (by rw [← HJ2.out, if_neg (by rw [hc]; decide)])
        clear hc
        go_wp2_with fail
        exact ⟨⟨j + 1, by omega, by go_num, HJ3, Lib.hid trivial⟩, by simp [intOf]; omega⟩
    · obtain rfl : j = 20 := by omega
      go_wp2_with fail
      exact bodyPost_ret (v := .tuple #[.int .i64 0, .bool false]) (by simp [results, Try.results10, go_sem]) rfl ⟨by rw [← HJ.out]; rfl, HB3.out⟩

/-- Which are done, as they lie. -/
def BoolsIn (w : World) (v : Value) (n : Nat) (dn : Nat → Bool) : Prop :=
  ∃ A cap, v = .slice A n cap ∧ (0 < n → ∃ g, A = some ⟨g, 0, none⟩ ∧ g < w.heap.size ∧ ∀ j, j < n → w.cell? ⟨g, j, none⟩ = some (.bool (dn j)))
theorem BoolsIn.next {w w' : World} {v : Value} {n : Nat} {dn : Nat → Bool} (h : BoolsIn w v n dn) (hb : Below w.heap.size w w') : BoolsIn w' v n dn := by
  obtain ⟨A, cap, h1, h2⟩ := h
  refine ⟨A, cap, h1, fun h0 => ?_⟩
  obtain ⟨g, e, hlt, hr⟩ := h2 h0
  exact ⟨g, e, Nat.lt_of_lt_of_le hlt hb.size, fun j hj => by rw [World.cell?_of_block (w := w) (hb.block g hlt)]; exact hr j hj⟩
def rowCells (r : Nat → Bool) : Array Value := arr 20 (fun k => .bool (r k))
theorem rowCells_size (r : Nat → Bool) : (rowCells r).size = 20 := arr_size _ _
def allB (r dn : Nat → Bool) (n : Nat) : Bool := (List.range n).all (fun k => !r k || dn k)
theorem allB_no {r dn : Nat → Bool} {n j : Nat} (hj : j < n) (h1 : r j = true) (h2 : dn j = false) : allB r dn n = false := by
  cases h : allB r dn n with
  | false => rfl
  | true =>
    have := List.all_eq_true.1 h j (List.mem_range.2 hj)
    rw [h1, h2] at this; cases this
theorem allB_yes {r dn : Nat → Bool} {n : Nat} (h : ∀ k, k < n → (r k && !dn k) = false) : allB r dn n = true := by
  unfold allB
  rw [List.all_eq_true]
  intro k hk
  have := h k (List.mem_range.1 hk)
  cases hr : r k <;> cases hd : dn k <;> simp_all

set_option maxRecDepth 100000 in
set_option maxHeartbeats 4000000 in
theorem mMay (r dn : Nat → Bool) (v : Value) (n : Nat) (hn : n ≤ 20) (w : World) (hv : BoolsIn w v n dn) :
    Calls Try.prog 24 #[.agg (rowCells r), v] w fun e w' => e = .returned (.bool (allB r dn n)) ∧ Below w.heap.size w w' := by
  obtain ⟨w1, hw1⟩ : ∃ w1, w1 = w.alloc (.cells (rowCells r) 43) := ⟨_, rfl⟩
  have HA1 : Hid (At w1 w.heap.size 43 (rowCells r)) := Lib.hid (by rw [hw1]; exact At.new _ _ _)
  have HB1 : Hid (Below w.heap.size w w1) := Lib.hid (by rw [hw1]; exact (Below.refl _ _).alloc (Nat.le_refl _) _)
  obtain ⟨A, cap, rfl, hr⟩ := hv.next HB1.out
  have HRW := Lib.hid hr
  have HW1 := Lib.hid hw1
  obtain ⟨R, hR⟩ : ∃ R, allB r dn n = R := ⟨_, rfl⟩
  have HR := Lib.hid hR
  rw [hR]
  clear hw1 hv hr hR
  go_enter Try.func24, Try.ntmps24
  go_wp2_with fail
  rw [← HW1.out]
  go_loopw [8] (fun i wr => ∃ j : Nat, j ≤ n ∧ i = .int .i64 j ∧ Hid (∀ k, k < j → (r k && !dn k) = false) ∧ Hid (wr = w1)) (fun i _ => n - (intOf i).toNat)
  case atStart => exact ⟨0, Nat.zero_le _, rfl, Lib.hid (fun k hk => absurd hk (Nat.not_lt_zero _)), Lib.hid rfl⟩
  case round =>
    clear HW1
    obtain ⟨j, hj, rfl, HJ, HE⟩ := hrel
    obtain rfl := HE.out
    by_cases hjl : j < n
    · have hjz : (0 : Int) ≤ (j : Int) := by omega
      have hjn : (j : Int) < (n : Int) := by omega
      have hj20 : (j : Int) < 20 := by omega
      have q0 := HA1.out.cell j
      rw [show (rowCells r)[j]? = some (.bool (r j)) from arr_get _ _ _ (by omega)] at q0
      obtain ⟨g, rfl, hg, hrr⟩ := HRW.out (by omega)
      have q1 := hrr j hjl
      clear hrr
      cases hrj : r j with
      | false =>
        rw [hrj] at q0
        have HJ2 : Hid (∀ k, k < j + 1 → (r k && !dn k) = false) := Lib.hid (fun k hk => by
          by_cases e : k = j
          · subst e; rw [hrj]; rfl
          · exact HJ.out k (by omega))
        clear hrj
        go_wp2_with fail
        exact ⟨⟨j + 1, by omega, by go_num, HJ2, Lib.hid trivial⟩, by simp [intOf]; omega⟩
      | true =>
        rw [hrj] at q0
        cases hdj : dn j with
        | false =>
          rw [hdj] at q1
          have HE2 : Hid (R = false) := Lib.hid (by rw [← HR.out]; exact allB_no hjl hrj hdj)
          clear hrj hdj
          go_wp2_with fail
          go_ret
          exact ⟨by rw [HE2.out]; rfl, HB1.out⟩
        | true =>
          rw [hdj] at q1
          have HJ2 : Hid (∀ k, k < j + 1 → (r k && !dn k) = false) := Lib.hid (fun k hk => by
            by_cases e : k = j
            · subst e; rw [hrj, hdj]; rfl
            · exact HJ.out k (by omega))
          clear hrj hdj
          go_wp2_with fail
          exact ⟨⟨j + 1, by omega, by go_num, HJ2, Lib.hid trivial⟩, by simp [intOf]; omega⟩
    · obtain rfl : j = n := by omega
      have HE2 : Hid (R = true) := Lib.hid (by rw [← HR.out]; exact allB_yes HJ.out)
      go_wp2_with fail
      go_ret
      exact ⟨by rw [HE2.out]; rfl, HB1.out⟩

theorem wpList_load_mid_want {P : Program} {ops : Array Oper} {rest : List Oper} {o : Oper} {a : Act} {w : World} {Q : Exit → Act → World → Prop} (hw : Region.wanted o (yielded ops a.tmps) = true) (ty : TypeId) (x : Operand) (ho : o.op = .load ty x)
    (b off : Nat) (hx : a.eval x = .pointer (some ⟨b, off, none⟩)) (cs : List Value) (d : TypeDesc) (hc : w.rangeAt b off cs)
    (hu : P.underlying ty = some d) (hd : d.isRow = true) (hi : (P.info? ty).map (·.size) = some cs.length)
    (h : wpList P ops Q rest (a.put o.dst (.agg cs.toArray)) w) : wpList P ops Q (o :: rest) a w :=
  wpList_step fun K hK => by rw [if_pos hw]; exact wp_load_mid ty x ho b off hx cs d hc hu hd hi (hK _ _ h)
theorem mCells_row (M : Nat → Nat → Bool) (i : Nat) (hi : i < 20) (w : World) (g : Nat) (t : TypeId) (h : At w g t (mCells M)) : w.rangeAt g (i * 20) (rowCells (M i)).toList := by
  intro k u hu
  have hk : k < 20 := by
    have := (List.getElem?_eq_some_iff.1 hu).1
    rw [Array.length_toList, rowCells_size] at this; exact this
  rw [h.cell, mCells_get M hi hk]
  rw [← hu, Array.getElem?_toList]
  exact (arr_get 20 (fun k => .bool (M i k)) k hk).symm

set_option maxRecDepth 100000 in
set_option maxHeartbeats 4000000 in
theorem mNext (ms : List (ByteArray × ByteArray)) (dn : Nat → Bool) (v : Value) (hn : ms.length ≤ 20) (w : World) (hv : BoolsIn w v ms.length dn) :
    Calls Try.prog 17 #[.agg (mCells (mat0 ms)), v] w fun e w' => e = .returned (.int .i64 (nextF ms dn ms.length 0)) ∧ Below w.heap.size w w' := by
  obtain ⟨w1, hw1⟩ : ∃ w1, w1 = w.alloc (.cells (mCells (mat0 ms)) 45) := ⟨_, rfl⟩
  have HA1 : Hid (At w1 w.heap.size 45 (mCells (mat0 ms))) := Lib.hid (by rw [hw1]; exact At.new _ _ _)
  have HB1 : Hid (Below w.heap.size w w1) := Lib.hid (by rw [hw1]; exact (Below.refl _ _).alloc (Nat.le_refl _) _)
  have HV1 := Lib.hid (hv.next HB1.out)
  obtain ⟨A, cap, rfl, _⟩ := id hv
  have HW1 := Lib.hid hw1
  obtain ⟨R, hR⟩ : ∃ R, nextF ms dn ms.length 0 = R := ⟨_, rfl⟩
  have HR := Lib.hid hR
  rw [hR]
  clear hw1 hv hR
  go_enter Try.func17, Try.ntmps17
  go_wp2_with fail
  rw [← HW1.out]
  go_loopw [8] (fun i wr => ∃ j : Nat, j ≤ ms.length ∧ i = .int .i64 j ∧ Hid (nextF ms dn (ms.length - j) j = R) ∧ Hid (Below w1.heap.size w1 wr)) (fun i _ => ms.length - (intOf i).toNat)
  case atStart => exact ⟨0, Nat.zero_le _, rfl, HR, Lib.hid (Below.refl _ _)⟩
  case round =>
    clear HW1
    obtain ⟨j, hj, rfl, HJ, HB⟩ := hrel
    by_cases hjl : j < ms.length
    · have hjz : (0 : Int) ≤ (j : Int) := by omega
      have hjn : (j : Int) < (ms.length : Int) := by omega
      have hj20 : (j : Int) < 20 := by omega
      have HVr := Lib.hid (HV1.out.next HB.out)
      obtain ⟨A', cap', e1, h2⟩ := HVr.out
      injection e1 with e1 _ e3
      subst e1
      subst e3
      obtain ⟨g, rfl, hg, hrr⟩ := h2 (by omega)
      have q1 := hrr j hjl
      clear hrr h2
      have HJ2 : Hid ((if mayS ms dn j = true then (j : Int) else nextF ms dn (ms.length - (j + 1)) (j + 1)) = R) := Lib.hid (by
        have := HJ.out
        rw [show ms.length - j = (ms.length - (j + 1)) + 1 by omega] at this
        exact this)
      have HX : Hid (mayS ms dn j = (!dn j && allB (mat0 ms j) dn ms.length)) := Lib.hid rfl
      have HAr := Lib.hid (At.below HA1.out HB.out HA1.out.lt)
      have HRow := Lib.hid (mCells_row (mat0 ms) j (by omega) wr w.heap.size _ HAr.out)
      cases hdj : dn j with
      | true =>
        rw [hdj] at q1
        have HJ3 : Hid (nextF ms dn (ms.length - (j + 1)) (j + 1) = R) := Lib.hid (by rw [← HJ2.out, if_neg (by rw [HX.out, hdj]; simp)])
        clear hdj
        go_wp2_with fail
        exact ⟨⟨j + 1, by omega, by go_num, HJ3, HB⟩, by simp [intOf]; omega⟩
      | false =>
        rw [hdj] at q1
        have HD := Lib.hid hdj
        clear hdj
        go_wp2_with (first
          | (refine wpList_load_mid_want rfl 43 _ rfl w.heap.size (j * 20) rfl (rowCells (mat0 ms j)).toList _ HRow.out Try.underlying43 rfl (by rw [Array.length_toList, rowCells_size]; kernel_rfl) ?_)
          | fail)
        refine (mMay (mat0 ms j) dn _ ms.length hn wr HVr.out).mono ?_
        rintro e w2 ⟨rfl, hb2⟩
        have HB2 := Lib.hid (HB.out.trans (hb2.mono HB.out.size))
        clear hb2
        cases hal : allB (mat0 ms j) dn ms.length with
        | true =>
          have HE2 : Hid (R = (j : Int)) := Lib.hid (by rw [← HJ2.out, if_pos (by rw [HX.out, HD.out, hal]; rfl)])
          clear hal
          go_wp2_with fail
          go_ret
          exact ⟨by rw [HE2.out]; rfl, HB1.out.trans (HB2.out.mono HB1.out.size)⟩
        | false =>
          have HJ3 : Hid (nextF ms dn (ms.length - (j + 1)) (j + 1) = R) := Lib.hid (by rw [← HJ2.out, if_neg (by rw [HX.out, hal, Bool.and_false]; decide)])
          clear hal
          go_wp2_with fail
          exact ⟨⟨j + 1, by omega, by go_num, HJ3, HB2⟩, by simp [intOf]; omega⟩
    · obtain rfl : j = ms.length := by omega
      go_wp2_with fail
      go_ret
      exact ⟨by rw [← HJ.out, Nat.sub_self]; rfl, HB1.out.trans (HB.out.mono HB1.out.size)⟩

end Go.Proofs.Ytkbfoelffeocmaa
