/- What the parser reads is no greater than its words; where it stops. -/
import Derived.Test.YtkbfoelffeocmaaParseH
namespace Go.Proofs.Ytkbfoelffeocmaa
open Go.RowKit
set_option linter.unusedSimpArgs false
set_option linter.unusedVariables false

/-- What a word may come to. -/
def wc (W : Nat) (x : Wd × Nat) : Nat := if x.1.kind = 11 then W else 2
def cst (W : Nat) (ws : List (Wd × Nat)) : Nat := (ws.map (wc W)).sum
theorem wc_two {W : Nat} (hW : 2 ≤ W) (x : Wd × Nat) : 2 ≤ wc W x := by unfold wc; split <;> omega
theorem cst_next {W : Nat} {s : PSt} {E : Nat} {x : Wd × Nat} (hx : peekS E s = x) (hk : x.1.kind ≠ 0) : cst W s.ws = wc W x + cst W (nextS s).ws := by
  have h := peek_some hx hk
  unfold cst
  rw [h, List.map_cons, List.sum_cons]
def MB (W c n : Nat) (m : PSt → Tr × PSt) : Prop := ∀ s, s.ws.length < n → (m s).2.flt = 0 → s.flt = 0 ∧ ∀ k, massS k (m s).1 + cst W (m s).2.ws ≤ cst W s.ws + c
theorem fail_flt (p e : Int) (s : PSt) (he : e ≠ 0) : (failS p e s).flt ≠ 0 := by
  unfold failS
  split
  · exact he
  · assumption
theorem enter_flt {p : Int} {s : PSt} (h : (enterS p s).flt = 0) : s.flt = 0 ∧ (enterS p s).ws = s.ws := by
  unfold enterS at *
  split at h
  · exact absurd h (fail_flt _ _ _ (by decide))
  · rename_i hh; rw [if_neg hh]; exact ⟨h, rfl⟩
theorem lm_mono (k : Nat) (l : List Tr) : lmS k l ≤ lmS (k + 1) l := by
  induction l with
  | nil => exact Nat.le_refl _
  | cons a r ih => have := mass_mono k a; unfold lmS at *; rw [List.map_cons, List.map_cons, List.sum_cons, List.sum_cons]; omega
theorem node_mass (k : Nat) (kd : Int) (l : List Tr) (lo hi : Int) (neg : Bool) : massS k (nodeT kd l lo hi neg) ≤ 1 + lmS k l := by
  cases k with
  | zero => show 1 ≤ _; omega
  | succ k => have := lm_mono k l; show 1 + lmS k l ≤ _; omega
theorem leaf_mass (k : Nat) (kd : Int) (set : St) (neg : Bool) : massS k (leafT kd set neg) = 1 := by cases k <;> rfl
theorem lm_snoc (k : Nat) (l : List Tr) (t : Tr) : lmS k (l ++ [t]) = lmS k l + massS k t := by unfold lmS; rw [List.map_append, List.sum_append]; simp
theorem lm_one (k : Nat) (t : Tr) : lmS k [t] = massS k t := by unfold lmS; simp
theorem join_mass (k : Nat) (kd : Int) (l : List Tr) : massS k (joinS kd l) ≤ (if l.length = 1 then 0 else 1) + lmS k l := by
  unfold joinS
  split
  · rw [lm_one]; simp
  · rename_i h
    have := node_mass k kd l 0 0 false
    have hl : l.length ≠ 1 := fun e => by
      match l, e with
      | [t], _ => exact h t rfl
    rw [if_neg hl]; exact this
section
variable {W E n : Nat} {m : PSt → Tr × PSt}
theorem nots_mb (h : MB W 0 n m) (hg : PGood n m) : ∀ (f : Nat) (l : List Tr) (s : PSt), s.ws.length < n → (nots E m f l s).2.flt = 0 → s.flt = 0 ∧ ∀ k, lmS k (nots E m f l s).1 + cst W (nots E m f l s).2.ws ≤ lmS k l + cst W s.ws
  | 0, l, s, _, hf => ⟨hf, fun k => Nat.le_refl _⟩
  | f + 1, l, s, hs, hf => by
    unfold nots at hf ⊢
    split at hf
    · rename_i hb
      rw [if_pos hb]
      have h2 := nots_mb h hg f _ (m s).2 (Nat.lt_of_le_of_lt (hg s hs).1.length_le hs) hf
      have h1 := h s hs h2.1
      exact ⟨h1.1, fun k => by have a := h2.2 k; have b := h1.2 k; rw [lm_snoc] at a; omega⟩
    · rename_i hb
      rw [if_neg hb]; exact ⟨hf, fun k => Nat.le_refl _⟩
theorem cat_mb {f : Nat} (h : MB W 0 n m) (hg : PGood n m) : MB W 1 n (catS E m f) := fun s hs hf => by
  have h1 := nots_mb (E := E) h hg f [] s hs hf
  refine ⟨h1.1, fun k => ?_⟩
  have h2 := h1.2 k
  have h0 : lmS k [] = 0 := rfl
  unfold catS
  dsimp only
  split
  · rw [leaf_mass]; omega
  · have := join_mass k 3 (nots E m f [] s).1
    split at this <;> omega
theorem rest_mb {sg : Int} (hsg : sg ≠ 11 ∧ sg ≠ 0) (h : MB W 1 n m) (hg : PGood n m) : ∀ (f : Nat) (l : List Tr) (s : PSt), s.ws.length < n → (restS E sg m f l s).2.flt = 0 → s.flt = 0 ∧ ∀ k, lmS k (restS E sg m f l s).1 + (restS E sg m f l s).1.length + cst W (restS E sg m f l s).2.ws ≤ lmS k l + l.length + cst W s.ws
  | 0, l, s, _, hf => ⟨hf, fun k => Nat.le_refl _⟩
  | f + 1, l, s, hs, hf => by
    unfold restS at hf ⊢
    split at hf
    · rename_i hb
      rw [if_pos hb]
      have hn := Nat.lt_of_le_of_lt (next_ws s).length_le hs
      have h2 := rest_mb hsg h hg f _ (m (nextS s)).2 (Nat.lt_of_le_of_lt (hg (nextS s) hn).1.length_le hn) hf
      have h1 := h (nextS s) hn h2.1
      have hc := cst_next (W := W) (s := s) (E := E) rfl (by rw [hb]; exact hsg.2)
      have hw : wc W (peekS E s) = 2 := by unfold wc; rw [if_neg (by rw [hb]; exact hsg.1)]
      exact ⟨h1.1, fun k => by have a := h2.2 k; have b := h1.2 k; rw [lm_snoc, List.length_append, List.length_singleton] at a; omega⟩
    · rename_i hb
      rw [if_neg hb]; exact ⟨hf, fun k => Nat.le_refl _⟩
theorem rest_long {sg : Int} : ∀ (f : Nat) (l : List Tr) (s : PSt), l.length ≤ (restS E sg m f l s).1.length
  | 0, l, s => Nat.le_refl _
  | f + 1, l, s => by
    unfold restS
    split
    · have := rest_long (sg := sg) f (l ++ [(m (nextS s)).1]) (m (nextS s)).2
      rw [List.length_append] at this; omega
    · exact Nat.le_refl _
theorem between_mb {f : Nat} {sg kd : Int} (hsg : sg ≠ 11 ∧ sg ≠ 0) (h : MB W 1 n m) (hg : PGood n m) : MB W 1 n (betweenS E sg kd m f) := fun s hs hf => by
  have hf' : (restS E sg m f [(m s).1] (m s).2).2.flt = 0 := hf
  have h2 := rest_mb (E := E) hsg h hg f [(m s).1] (m s).2 (Nat.lt_of_le_of_lt (hg s hs).1.length_le hs) hf'
  have h1 := h s hs h2.1
  refine ⟨h1.1, fun k => ?_⟩
  have a := h2.2 k
  have b := h1.2 k
  have c := join_mass k kd (restS E sg m f [(m s).1] (m s).2).1
  have d := rest_long (E := E) (m := m) (sg := sg) f [(m s).1] (m s).2
  rw [lm_one, List.length_singleton] at a
  rw [List.length_singleton] at d
  show massS k (joinS kd (restS E sg m f [(m s).1] (m s).2).1) + cst W (restS E sg m f [(m s).1] (m s).2).2.ws ≤ _
  split at c <;> omega
theorem or_mb {f : Nat} (h : MB W 0 n m) (hg : PGood n m) : MB W 1 n (orS E m f) :=
  between_mb ⟨by decide, by decide⟩ (between_mb ⟨by decide, by decide⟩ (cat_mb h hg) (cat_good hg)) (between_good (cat_good hg))
theorem bracket_mb {f : Nat} (h : MB W 1 n (orS E m f)) (hW : 2 ≤ W) (p : Nat) (s : PSt) (hs : s.ws.length < n) (hf : (bracketS E m f p s).2.flt = 0) : s.flt = 0 ∧ ∀ k, massS k (bracketS E m f p s).1 + cst W (bracketS E m f p s).2.ws + 1 ≤ cst W s.ws := by
  unfold bracketS at hf ⊢
  dsimp only at hf ⊢
  split at hf
  · rename_i h3
    rw [if_pos h3]
    have hf' : (orS E m f (enterS p s)).2.flt = 0 := hf
    have h1 := h (enterS p s) (Nat.lt_of_le_of_lt (enter_ws p s).length_le hs) hf'
    have he := enter_flt h1.1
    have hc := cst_next (W := W) (s := leaveS (orS E m f (enterS p s)).2) (E := E) rfl (by rw [h3]; decide)
    have hw : wc W (peekS E (leaveS (orS E m f (enterS p s)).2)) = 2 := by unfold wc; rw [if_neg (by rw [h3]; decide)]
    have hl : (leaveS (orS E m f (enterS p s)).2).ws = (orS E m f (enterS p s)).2.ws := rfl
    refine ⟨he.1, fun k => ?_⟩
    have b := h1.2 k
    rw [he.2] at b
    rw [hl] at hc
    omega
  · exact absurd hf (fail_flt _ _ _ (by decide))
theorem look_mb {ds : List (ByteArray × Tr)} (hds : ∀ d ∈ ds, ∀ k, massS k d.2 ≤ W) (x : Wd × Nat) (s : PSt) (hf : (lookS ds x s).2.flt = 0) : s.flt = 0 ∧ (lookS ds x s).2 = s ∧ ∀ k, massS k (lookS ds x s).1 ≤ W := by
  induction ds with
  | nil => exact absurd hf (fail_flt _ _ _ (by decide))
  | cons d r ih =>
    unfold lookS at hf ⊢
    split at hf
    · rename_i h; rw [if_pos h]; exact ⟨hf, rfl, hds d (by simp)⟩
    · rename_i h; rw [if_neg h]; exact ih (fun d' hd => hds d' (List.mem_cons_of_mem _ hd)) hf
theorem atom_mb {f : Nat} {ds : List (ByteArray × Tr)} (hds : ∀ d ∈ ds, ∀ k, massS k d.2 ≤ W) (hW : 2 ≤ W) (h : MB W 1 n (orS E m f)) : MB W 0 (n + 1) (atomS E ds m f) := fun s hs hf => by
  obtain ⟨x, hx⟩ : ∃ x, peekS E s = x := ⟨_, rfl⟩
  have hlen : x.1.kind ≠ 0 → (nextS s).ws.length < n := fun hk => by
    have e := peek_some hx hk
    have e2 : s.ws.length = (nextS s).ws.length + 1 := by rw [e]; simp
    omega
  have hnf : (nextS s).flt = s.flt := rfl
  have leaf : ∀ (kd : Int) (set : St), x.1.kind ≠ 0 → (nextS s).flt = 0 → s.flt = 0 ∧ ∀ k, massS k (leafT kd set false) + cst W (nextS s).ws ≤ cst W s.ws + 0 := fun kd set hk hq => ⟨hq, fun k => by
    have := cst_next (W := W) hx hk
    have := wc_two hW x
    rw [leaf_mass]; omega⟩
  have br : x.1.kind ≠ 0 → (bracketS E m f x.2 (nextS s)).2.flt = 0 → s.flt = 0 ∧ ∀ k, massS k (bracketS E m f x.2 (nextS s)).1 + cst W (bracketS E m f x.2 (nextS s)).2.ws + 1 ≤ cst W s.ws := fun hk hq => by
    have h1 := bracket_mb h hW x.2 (nextS s) (hlen hk) hq
    have := cst_next (W := W) hx hk
    exact ⟨h1.1, fun k => by have := h1.2 k; omega⟩
  unfold atomS at hf ⊢
  dsimp only at hf ⊢
  rw [hx] at hf ⊢
  split at hf
  · rename_i h1; rw [if_pos h1]; exact leaf _ _ (by omega) hf
  rename_i h1; rw [if_neg h1]
  split at hf
  · rename_i h2; rw [if_pos h2]
    have h3 := look_mb hds x (nextS s) hf
    have := cst_next (W := W) hx (by omega)
    have hw : wc W x = W := by unfold wc; rw [if_pos h2]
    exact ⟨h3.1, fun k => by have a := h3.2.2 k; rw [h3.2.1]; omega⟩
  rename_i h2; rw [if_neg h2]
  split at hf
  · rename_i h3; rw [if_pos h3]; exact leaf _ _ (by omega) hf
  rename_i h3; rw [if_neg h3]
  split at hf
  · rename_i h4; rw [if_pos h4]; exact leaf _ _ (by omega) hf
  rename_i h4; rw [if_neg h4]
  split at hf
  · rename_i h5; rw [if_pos h5]
    have := br (by omega) hf
    exact ⟨this.1, fun k => by have := this.2 k; omega⟩
  rename_i h5; rw [if_neg h5]
  split at hf
  · rename_i h6; rw [if_pos h6]
    have := br (by omega) hf
    exact ⟨this.1, fun k => by have a := this.2 k; have b := node_mass k 8 [(bracketS E m f x.2 (nextS s)).1] 0 0 (decide (x.1.kind = 13 ∨ x.1.kind = 15)); rw [lm_one] at b; dsimp only; omega⟩
  rename_i h6; rw [if_neg h6]
  split at hf
  · rename_i h7; rw [if_pos h7]
    have := br (by omega) hf
    exact ⟨this.1, fun k => by have a := this.2 k; have b := node_mass k 9 [(bracketS E m f x.2 (nextS s)).1] 0 0 (decide (x.1.kind = 13 ∨ x.1.kind = 15)); rw [lm_one] at b; dsimp only; omega⟩
  · exact absurd hf (fail_flt _ _ _ (by decide))
theorem timesW_kind {x : Wd} (h : (timesW x).2.2 = true) : x.kind ≠ 0 ∧ x.kind ≠ 11 := by
  unfold timesW at h
  (repeat' split at h) <;> (first | (refine ⟨?_, ?_⟩ <;> omega) | cases h)
theorem posts_mb (hW : 2 ≤ W) : ∀ (f : Nat) (t : Tr) (s : PSt), (postsS E f t s).2.flt = 0 → s.flt = 0 ∧ ∀ k, massS k (postsS E f t s).1 + cst W (postsS E f t s).2.ws ≤ massS k t + cst W s.ws
  | 0, t, s, hf => ⟨hf, fun k => Nat.le_refl _⟩
  | f + 1, t, s, hf => by
    unfold postsS at hf ⊢
    split at hf
    · rename_i hb
      rw [if_pos hb]
      have h2 := posts_mb hW f _ (nextS s) hf
      have hk := timesW_kind hb
      have hc := cst_next (W := W) (s := s) (E := E) rfl hk.1
      have hw : wc W (peekS E s) = 2 := by unfold wc; rw [if_neg hk.2]
      exact ⟨h2.1, fun k => by have a := h2.2 k; have b := node_mass k 7 [t] (timesW (peekS E s).1).1 (timesW (peekS E s).1).2.1 false; rw [lm_one] at b; omega⟩
    · rename_i hb
      rw [if_neg hb]; exact ⟨hf, fun k => Nat.le_refl _⟩
theorem post_mb {f n' : Nat} {ds : List (ByteArray × Tr)} (hW : 2 ≤ W) (h : MB W 0 n' (atomS E ds m f)) : MB W 0 n' (postS E ds m f) := fun s hs hf => by
  have h2 := posts_mb (E := E) hW f (atomS E ds m f s).1 (atomS E ds m f s).2 hf
  have h1 := h s hs h2.1
  exact ⟨h1.1, fun k => by have a := h2.2 k; have b := h1.2 k; show massS k (postsS E f _ _).1 + cst W (postsS E f _ _).2.ws ≤ _; omega⟩
end
theorem not_mb {W E : Nat} {ds : List (ByteArray × Tr)} (hds : ∀ d ∈ ds, ∀ k, massS k d.2 ≤ W) (hW : 2 ≤ W) : ∀ f, MB W 0 f (notS E ds f)
  | 0 => fun s hs => absurd hs (Nat.not_lt_zero _)
  | f + 1 => fun s hs hf => by
    have ih := not_mb (E := E) hds hW f
    have hg := (not_good (E := E) (ds := ds) f).1
    by_cases h6 : (peekS E s).1.kind = 6
    · have e : notS E ds (f + 1) s = (nodeT 6 [(notS E ds f (enterS (peekS E s).2 (nextS s))).1] 0 0 false, leaveS (notS E ds f (enterS (peekS E s).2 (nextS s))).2) := if_pos h6
      rw [e] at hf ⊢
      have hf' : (notS E ds f (enterS (peekS E s).2 (nextS s))).2.flt = 0 := hf
      have hp := peek_some (E := E) (s := s) rfl (by omega)
      have e2 : s.ws.length = (nextS s).ws.length + 1 := by rw [hp]; simp
      have h1 := ih (enterS (peekS E s).2 (nextS s)) (by have := (enter_ws (peekS E s).2 (nextS s)).length_le; omega) hf'
      have he := enter_flt h1.1
      have hc := cst_next (W := W) (s := s) (E := E) rfl (by omega)
      have hw : wc W (peekS E s) = 2 := by unfold wc; rw [if_neg (by omega)]
      refine ⟨he.1, fun k => ?_⟩
      have a := h1.2 k
      rw [he.2] at a
      have b := node_mass k 6 [(notS E ds f (enterS (peekS E s).2 (nextS s))).1] 0 0 false
      rw [lm_one] at b
      show _ + cst W (notS E ds f (enterS (peekS E s).2 (nextS s))).2.ws ≤ _
      dsimp only
      omega
    · have e : notS E ds (f + 1) s = postS E ds (notS E ds f) (f + 1) s := if_neg h6
      rw [e] at hf ⊢
      exact post_mb hW (atom_mb hds hW (or_mb ih hg)) s hs hf
theorem whole_mb {W E : Nat} {ds : List (ByteArray × Tr)} (hds : ∀ d ∈ ds, ∀ k, massS k d.2 ≤ W) (hW : 2 ≤ W) (n : Nat) (s : PSt) (hs : s.ws.length < n) (hf : (wholeS E ds n s).2.flt = 0) : ∀ k, massS k (wholeS E ds n s).1 ≤ cst W s.ws + 1 := by
  have h := or_mb (E := E) (f := n) (not_mb hds hW n) (not_good (E := E) (ds := ds) n).1
  unfold wholeS at hf ⊢
  dsimp only at hf ⊢
  split at hf
  · intro k
    have := (h s hs hf).2 k
    omega
  · exact absurd hf (fail_flt _ _ _ (by decide))
theorem pS_mass {W : Nat} {s : ByteArray} {ds : List (ByteArray × Tr)} (hds : ∀ d ∈ ds, ∀ k, massS k d.2 ≤ W) (hW : 2 ≤ W) (hf : (pS s ds).2.flt = 0) : ∀ k, massS k (pS s ds).1 ≤ W * s.size + 1 := by
  intro k
  have h1 := whole_mb hds hW ((wordsS s).1.length + 1) ⟨(wordsS s).1, 0, 0, 0⟩ (Nat.lt_succ_self _) hf k
  have h2 : ∀ l : List (Wd × Nat), cst W l ≤ W * l.length := fun l => by
    induction l with
    | nil => exact Nat.zero_le _
    | cons x r ih =>
      have hx : wc W x ≤ W := by unfold wc; split <;> omega
      unfold cst at *
      rw [List.map_cons, List.sum_cons, List.length_cons, Nat.mul_succ]; omega
  have h3 := h2 (wordsS s).1
  have h4 : W * (wordsS s).1.length ≤ W * s.size := Nat.mul_le_mul_left W (words_at s).1
  have h5 : massS k (pS s ds).1 ≤ cst W (wordsS s).1 + 1 := h1
  omega

/- Where the parser stops. -/
def FLs (E : Nat) (s : PSt) : Prop := (∀ y ∈ s.ws, y.2 ≤ E) ∧ (s.flt = 0 ∨ (s.flt = 2 ∨ s.flt = 5 ∨ s.flt = 8) ∧ 0 ≤ s.place ∧ s.place ≤ E)
def PFl (E : Nat) (m : PSt → Tr × PSt) : Prop := ∀ s, FLs E s → FLs E (m s).2
theorem FLs.peek {E : Nat} {s : PSt} (h : FLs E s) : (peekS E s).2 ≤ E := by
  unfold peekS
  split
  · exact Nat.le_refl _
  · rename_i x r hs; exact h.1 x (by rw [hs]; simp)
theorem FLs.next {E : Nat} {s : PSt} (h : FLs E s) : FLs E (nextS s) := ⟨fun y hy => h.1 y (List.mem_of_mem_tail hy), h.2⟩
theorem FLs.fail {E : Nat} {s : PSt} (h : FLs E s) {p : Nat} {e : Int} (hp : p ≤ E) (he : e = 2 ∨ e = 5 ∨ e = 8) : FLs E (failS p e s) := by
  unfold failS
  split
  · exact ⟨fun y hy => absurd hy List.not_mem_nil, Or.inr ⟨he, by dsimp only; omega, by dsimp only; omega⟩⟩
  · exact h
theorem FLs.enter {E : Nat} {s : PSt} (h : FLs E s) {p : Nat} (hp : p ≤ E) : FLs E (enterS p s) := by
  unfold enterS
  split
  · exact FLs.fail (s := { s with op := s.op + 1 }) h hp (Or.inr (Or.inr rfl))
  · exact h
section
variable {E : Nat} {m : PSt → Tr × PSt}
theorem nots_fl (h : PFl E m) : ∀ (f : Nat) (l : List Tr) (s : PSt), FLs E s → FLs E (nots E m f l s).2
  | 0, _, _, hs => hs
  | f + 1, l, s, hs => by
    unfold nots
    split
    · exact nots_fl h f _ _ (h s hs)
    · exact hs
theorem rest_fl (h : PFl E m) (sg : Int) : ∀ (f : Nat) (l : List Tr) (s : PSt), FLs E s → FLs E (restS E sg m f l s).2
  | 0, _, _, hs => hs
  | f + 1, l, s, hs => by
    unfold restS
    split
    · exact rest_fl h sg f _ _ (h _ hs.next)
    · exact hs
theorem between_fl (h : PFl E m) (sg kd : Int) (f : Nat) : PFl E (betweenS E sg kd m f) := fun s hs => rest_fl h sg f _ _ (h s hs)
theorem or_fl (h : PFl E m) (f : Nat) : PFl E (orS E m f) := between_fl (between_fl (fun s hs => nots_fl h f [] s hs) 5 5 f) 4 4 f
theorem look_fl (ds : List (ByteArray × Tr)) (x : Wd × Nat) (hx : x.2 ≤ E) (s : PSt) (hs : FLs E s) : FLs E (lookS ds x s).2 := by
  induction ds with
  | nil => exact hs.fail hx (Or.inr (Or.inl rfl))
  | cons d r ih =>
    unfold lookS
    split
    · exact hs
    · exact ih
theorem bracket_fl {f : Nat} (h : PFl E (orS E m f)) (p : Nat) (hp : p ≤ E) (s : PSt) (hs : FLs E s) : FLs E (bracketS E m f p s).2 := by
  have h1 := h _ (hs.enter hp)
  have h2 : FLs E (leaveS (orS E m f (enterS p s)).2) := h1
  unfold bracketS
  dsimp only
  split
  · exact h2.next
  · exact h2.next.fail h2.peek (Or.inl rfl)
theorem atom_fl {f : Nat} {ds : List (ByteArray × Tr)} (h : PFl E (orS E m f)) : PFl E (atomS E ds m f) := fun s hs => by
  have hp := hs.peek
  unfold atomS
  dsimp only
  generalize peekS E s = x at hp ⊢
  split
  · exact hs.next
  split
  · exact look_fl ds x hp _ hs.next
  split
  · exact hs.next
  split
  · exact hs.next
  split
  · exact bracket_fl h _ hp _ hs.next
  split
  · exact bracket_fl h _ hp _ hs.next
  split
  · exact bracket_fl h _ hp _ hs.next
  · exact hs.next.fail hp (Or.inl rfl)
theorem posts_fl : ∀ (f : Nat) (t : Tr) (s : PSt), FLs E s → FLs E (postsS E f t s).2
  | 0, _, _, hs => hs
  | f + 1, t, s, hs => by
    unfold postsS
    split
    · exact posts_fl f _ _ hs.next
    · exact hs
end
theorem not_fl {E : Nat} {ds : List (ByteArray × Tr)} : ∀ f, PFl E (notS E ds f)
  | 0 => fun s hs => hs
  | f + 1 => fun s hs => by
    have ih := not_fl (E := E) (ds := ds) f
    by_cases h6 : (peekS E s).1.kind = 6
    · have e : notS E ds (f + 1) s = (nodeT 6 [(notS E ds f (enterS (peekS E s).2 (nextS s))).1] 0 0 false, leaveS (notS E ds f (enterS (peekS E s).2 (nextS s))).2) := if_pos h6
      rw [e]
      exact ih _ (hs.next.enter hs.peek)
    · have e : notS E ds (f + 1) s = postS E ds (notS E ds f) (f + 1) s := if_neg h6
      rw [e]
      exact posts_fl _ _ _ (atom_fl (or_fl ih (f + 1)) s hs)
theorem pS_fl (s : ByteArray) (ds : List (ByteArray × Tr)) : FLs s.size (pS s ds).2 := by
  have h := or_fl (not_fl (E := s.size) (ds := ds) ((wordsS s).1.length + 1)) ((wordsS s).1.length + 1) ⟨(wordsS s).1, 0, 0, 0⟩ ⟨fun y hy => Nat.le_of_lt ((words_at s).2.1 y hy), Or.inl rfl⟩
  unfold pS wholeS
  dsimp only
  split
  · exact h
  · exact h.fail h.peek (Or.inl rfl)

end Go.Proofs.Ytkbfoelffeocmaa
