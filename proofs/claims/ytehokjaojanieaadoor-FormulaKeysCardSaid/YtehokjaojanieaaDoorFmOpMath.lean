/- What the reference's Op answers is formed, and holds as it should. Mathematics. -/
import Derived.Test.YtehokjaojanieaaDoorFmMath
import Derived.Test.YtehokjaojanieaaDoorFmOp
namespace Go.Proofs.YtehokjaojanieaaDoor
set_option linter.unusedVariables false
set_option linter.unusedSimpArgs false

theorem lex_total : ∀ a b : List Int, a.length = b.length → lexS a b = true ∨ lexS b a = true ∨ a = b
  | [], [], _ => Or.inr (Or.inr rfl)
  | [], _ :: _, h => by simp at h
  | _ :: _, [], h => by simp at h
  | x :: a, y :: b, h => by
    show (if x = y then lexS a b else decide (x < y)) = true ∨ (if y = x then lexS b a else decide (y < x)) = true ∨ _
    by_cases c : x = y
    · subst c
      rw [if_pos rfl, if_pos rfl]
      rcases lex_total a b (by simpa using h) with h | h | h
      · exact Or.inl h
      · exact Or.inr (Or.inl h)
      · exact Or.inr (Or.inr (by rw [h]))
    · rw [if_neg c, if_neg (fun e => c e.symm)]
      by_cases d : x < y
      · exact Or.inl (decide_eq_true d)
      · exact Or.inr (Or.inl (decide_eq_true (by omega)))
theorem less_total (a b : List Int) : lessS a b = true ∨ lessS b a = true ∨ a = b := by
  unfold lessS
  by_cases c : a.length = b.length
  · rw [if_pos c, if_pos c.symm]; exact lex_total a b c
  · rw [if_neg c, if_neg (fun e => c e.symm)]
    by_cases d : a.length < b.length
    · exact Or.inl (decide_eq_true d)
    · exact Or.inr (Or.inl (decide_eq_true (by omega)))
/- A sorted list, and what is put in its place. -/
section
variable {α : Type} {R : α → α → Bool} {l : List α} {y : α}
theorem put_mem {x : α} : x ∈ l.takeWhile (fun q => R q y) ++ y :: l.dropWhile (fun q => R q y) ↔ x = y ∨ x ∈ l := by
  have e := List.takeWhile_append_dropWhile (p := fun q => R q y) (l := l)
  constructor
  · intro h
    rcases List.mem_append.1 h with h | h
    · right; rw [← e]; exact List.mem_append.2 (Or.inl h)
    · rcases List.mem_cons.1 h with h | h
      · exact Or.inl h
      · right; rw [← e]; exact List.mem_append.2 (Or.inr h)
  · intro h
    rcases h with rfl | h
    · exact List.mem_append.2 (Or.inr List.mem_cons_self)
    · rw [← e] at h
      rcases List.mem_append.1 h with h | h
      · exact List.mem_append.2 (Or.inl h)
      · exact List.mem_append.2 (Or.inr (List.mem_cons_of_mem _ h))
theorem put_sorted (ht : ∀ a b c, R a b = true → R b c = true → R a c = true) (htot : ∀ a b, R a b = true ∨ R b a = true ∨ a = b) (hl : l.Pairwise (fun a b => R a b = true)) (hy : y ∉ l) :
    (l.takeWhile (fun q => R q y) ++ y :: l.dropWhile (fun q => R q y)).Pairwise (fun a b => R a b = true) := by
  induction l with
  | nil => simp
  | cons x l ih =>
    obtain ⟨h1, h2⟩ := List.pairwise_cons.1 hl
    have ih' := ih h2 (fun h => hy (List.mem_cons_of_mem _ h))
    cases hx : R x y
    · have hyx : R y x = true := by
        rcases htot x y with h | h | h
        · rw [hx] at h; cases h
        · exact h
        · exact absurd (by rw [h]; exact List.mem_cons_self) hy
      simp only [List.takeWhile_cons, List.dropWhile_cons, hx, Bool.false_eq_true, if_false, List.nil_append]
      refine List.pairwise_cons.2 ⟨fun z hz => ?_, hl⟩
      rcases List.mem_cons.1 hz with rfl | hz
      · exact hyx
      · exact ht _ _ _ hyx (h1 z hz)
    · simp only [List.takeWhile_cons, List.dropWhile_cons, hx, if_true, List.cons_append]
      refine List.pairwise_cons.2 ⟨fun z hz => ?_, ih'⟩
      rcases put_mem.1 hz with rfl | hz
      · exact hx
      · exact h1 z hz
end
/- The numbers of formulas. -/
theorem addN_ok {z : List Int} {y : Int} (h : Up z) : Up (addN z y) ∧ ∀ x, x ∈ addN z y ↔ x = y ∨ x ∈ z := by
  unfold addN
  cases hb : hasS z y with
  | true =>
    rw [if_pos rfl]
    exact ⟨h, fun x => ⟨Or.inr, fun hx => by rcases hx with rfl | hx; exact has_iff.1 hb; exact hx⟩⟩
  | false =>
    rw [if_neg (by simp)]
    have hy : y ∉ z := fun hm => by rw [has_iff.2 hm] at hb; cases hb
    refine ⟨?_, fun x => put_mem (R := fun a b => decide (a < b))⟩
    have h2 := put_sorted (R := fun a b : Int => decide (a < b)) (l := z) (y := y) (fun a b c h1 h2 => decide_eq_true (by have := of_decide_eq_true h1; have := of_decide_eq_true h2; omega)) (fun a b => by
      rcases Int.lt_trichotomy a b with h | h | h
      · exact Or.inl (decide_eq_true h)
      · exact Or.inr (Or.inr h)
      · exact Or.inr (Or.inl (decide_eq_true h))) (h.imp (fun h => decide_eq_true h)) hy
    exact h2.imp (fun h => of_decide_eq_true h)
theorem fold_ok : ∀ (l z : List Int), Up z → Up (l.foldl addN z) ∧ ∀ x, x ∈ l.foldl addN z ↔ x ∈ z ∨ x ∈ l
  | [], z, h => ⟨h, fun x => by simp⟩
  | y :: l, z, h => by
    obtain ⟨h1, h2⟩ := addN_ok (y := y) h
    obtain ⟨h3, h4⟩ := fold_ok l (addN z y) h1
    refine ⟨h3, fun x => ?_⟩
    show x ∈ l.foldl addN (addN z y) ↔ _
    rw [h4, h2, List.mem_cons]
    constructor
    · rintro ((h | h) | h)
      · exact Or.inr (Or.inl h)
      · exact Or.inl h
      · exact Or.inr (Or.inr h)
    · rintro (h | h | h)
      · exact Or.inl (Or.inr h)
      · exact Or.inl (Or.inl h)
      · exact Or.inr h
theorem atoms_up (fs : List Fm) : Up (atomsS fs) := (fold_ok _ [] List.Pairwise.nil).1
theorem atoms_mem {fs : List Fm} {x : Int} : x ∈ atomsS fs ↔ ∃ f ∈ fs, ∃ p ∈ f, x ∈ p := by
  unfold atomsS
  rw [(fold_ok _ [] List.Pairwise.nil).2 x]
  simp only [List.not_mem_nil, false_or, List.mem_flatten]
  constructor
  · rintro ⟨p, ⟨f, hf, hp⟩, hx⟩; exact ⟨f, hf, p, hp, hx⟩
  · rintro ⟨f, hf, p, hp, hx⟩; exact ⟨p, ⟨f, hf, hp⟩, hx⟩
/- The ways of some numbers. -/
section
variable {l : List Int} {b b' : Nat}
theorem chosen_mem {x : Int} : x ∈ chosenS l b ↔ ∃ i, i < l.length ∧ b.testBit i = true ∧ inAt l i = x := by
  unfold chosenS chTo
  rw [List.mem_map]
  constructor
  · rintro ⟨i, hi, rfl⟩
    have := List.mem_filter.1 hi
    exact ⟨i, List.mem_range.1 this.1, this.2, rfl⟩
  · rintro ⟨i, hi, ht, rfl⟩
    exact ⟨i, List.mem_filter.2 ⟨List.mem_range.2 hi, ht⟩, rfl⟩
theorem up_at (hl : Up l) {i k : Nat} (hk : k < l.length) (h : i < k) : inAt l i < inAt l k := by
  rw [inAt_lt hk, inAt_lt (by omega)]
  exact List.pairwise_iff_getElem.1 hl i k (by omega) hk h
theorem up_inj (hl : Up l) {i k : Nat} (hi : i < l.length) (hk : k < l.length) (h : inAt l i = inAt l k) : i = k := by
  rcases Nat.lt_trichotomy i k with c | c | c
  · have := up_at hl hk c; omega
  · exact c
  · have := up_at hl hi c; omega
theorem chosen_up (hl : Up l) : Up (chosenS l b) := by
  unfold chosenS chTo Up
  rw [List.pairwise_map]
  have h1 : (List.range l.length).Pairwise (fun a b => a < b ∧ b < l.length) := by
    refine List.pairwise_iff_getElem.2 (fun i j hi hj h => ?_)
    rw [List.getElem_range, List.getElem_range]
    rw [List.length_range] at hj
    exact ⟨h, hj⟩
  exact (h1.filter _).imp (fun h => up_at hl h.2 h.1)
theorem chosen_sub (hl : Up l) : (∀ x ∈ chosenS l b, x ∈ chosenS l b') ↔ ∀ i, i < l.length → b.testBit i = true → b'.testBit i = true := by
  constructor
  · intro h i hi ht
    obtain ⟨k, hk, hkt, e⟩ := chosen_mem.1 (h _ (chosen_mem.2 ⟨i, hi, ht, rfl⟩))
    rw [up_inj hl hk hi e] at hkt
    exact hkt
  · intro h x hx
    obtain ⟨i, hi, ht, rfl⟩ := chosen_mem.1 hx
    exact chosen_mem.2 ⟨i, hi, h i hi ht, rfl⟩
theorem bits_eq {m : Nat} (hb : b < 2 ^ m) (hb' : b' < 2 ^ m) (h : ∀ i, i < m → b.testBit i = b'.testBit i) : b = b' := by
  refine Nat.eq_of_testBit_eq (fun i => ?_)
  by_cases c : i < m
  · exact h i c
  · have e : 2 ^ m ≤ 2 ^ i := Nat.pow_le_pow_right (by omega) (by omega)
    rw [Nat.testBit_lt_two_pow (by omega), Nat.testBit_lt_two_pow (by omega)]
theorem chosen_inj (hl : Up l) (hb : b < 2 ^ l.length) (hb' : b' < 2 ^ l.length) (h : chosenS l b = chosenS l b') : b = b' := by
  have h1 := (chosen_sub (b := b) (b' := b') hl).1 (fun x hx => by rw [← h]; exact hx)
  have h2 := (chosen_sub (b := b') (b' := b) hl).1 (fun x hx => by rw [h]; exact hx)
  refine bits_eq hb hb' (fun i hi => ?_)
  cases hx : b.testBit i with
  | true => exact (h1 i hi hx).symm
  | false =>
    cases hy : b'.testBit i with
    | true => rw [h2 i hi hy] at hx; cases hx
    | false => rfl
theorem flip_at (b i k : Nat) : (b ^^^ 2 ^ i).testBit k = (b.testBit k != decide (i = k)) := by
  rw [Nat.testBit_xor, Nat.testBit_two_pow]
theorem flip_lt {m i : Nat} (hb : b < 2 ^ m) (hi : i < m) : b ^^^ 2 ^ i < 2 ^ m := Nat.xor_lt_two_pow hb (Nat.pow_lt_pow_right (by omega) hi)
theorem flip_less {i : Nat} (h : b.testBit i = true) : b ^^^ 2 ^ i < b := by
  have h0 : (b ^^^ 2 ^ i).testBit i = false := by rw [flip_at, h]; simp
  have e : b = (b ^^^ 2 ^ i) ||| 2 ^ i := by
    refine Nat.eq_of_testBit_eq (fun k => ?_)
    rw [Nat.testBit_or, flip_at, Nat.testBit_two_pow]
    by_cases c : i = k
    · subst c; rw [h]; simp
    · rw [decide_eq_false c]; simp
  have h1 : b ^^^ 2 ^ i ≤ (b ^^^ 2 ^ i) ||| 2 ^ i := Nat.left_le_or
  rw [← e] at h1
  rcases Nat.lt_or_eq_of_le h1 with h2 | h2
  · exact h2
  · rw [h2, h] at h0; cases h0
end
/-- A table of ways that holds for more when it holds for less. -/
def Mono (hf : Nat → Bool) (m : Nat) : Prop := ∀ b b', b < 2 ^ m → b' < 2 ^ m → (∀ i, i < m → b.testBit i = true → b'.testBit i = true) → hf b = true → hf b' = true
theorem least_iff {hf : Nat → Bool} {b m : Nat} : leastTo hf b m = true ↔ hf b = true ∧ ∀ i, i < m → b.testBit i = true → hf (b ^^^ 2 ^ i) = false := by
  unfold leastTo
  rw [Bool.and_eq_true, all_range]
  refine and_congr Iff.rfl (forall_congr' (fun i => forall_congr' (fun hi => ?_)))
  cases b.testBit i <;> cases hf (b ^^^ 2 ^ i) <;> simp
theorem make_mem {l : List Int} {hf : Nat → Bool} {p : List Int} : ∀ {j : Nat}, p ∈ makeTo l hf j ↔ ∃ b, b < j ∧ leastTo hf b l.length = true ∧ chosenS l b = p
  | 0 => ⟨(fun h => by cases h), (fun ⟨b, hb, _⟩ => by omega)⟩
  | j + 1 => by
    show p ∈ (if leastTo hf j l.length then insS (makeTo l hf j) (chosenS l j) else makeTo l hf j) ↔ _
    cases hb : leastTo hf j l.length with
    | true =>
      rw [if_pos rfl]
      unfold insS
      rw [put_mem (R := lessS), make_mem]
      constructor
      · rintro (rfl | ⟨b, h1, h2, h3⟩)
        · exact ⟨j, by omega, hb, rfl⟩
        · exact ⟨b, by omega, h2, h3⟩
      · rintro ⟨b, h1, h2, h3⟩
        by_cases c : b = j
        · subst c; exact Or.inl h3.symm
        · exact Or.inr ⟨b, by omega, h2, h3⟩
    | false =>
      rw [if_neg (by simp), make_mem]
      constructor
      · rintro ⟨b, h1, h2, h3⟩; exact ⟨b, by omega, h2, h3⟩
      · rintro ⟨b, h1, h2, h3⟩
        by_cases c : b = j
        · subst c; rw [hb] at h2; cases h2
        · exact ⟨b, by omega, h2, h3⟩
theorem make_sorted {l : List Int} {hf : Nat → Bool} (hl : Up l) : ∀ {j : Nat}, j ≤ 2 ^ l.length → (makeTo l hf j).Pairwise (fun p q => lessS p q = true)
  | 0, _ => List.Pairwise.nil
  | j + 1, hj => by
    have ih := make_sorted (hf := hf) hl (j := j) (by omega)
    show (if leastTo hf j l.length then insS (makeTo l hf j) (chosenS l j) else makeTo l hf j).Pairwise _
    split
    · refine put_sorted (R := lessS) (fun a b c => less_trans) less_total ih (fun hm => ?_)
      obtain ⟨b, h1, _, h3⟩ := make_mem.1 hm
      have := chosen_inj hl (by omega) (by omega) h3
      omega
    · exact ih
theorem make_fmd {l : List Int} {hf : Nat → Bool} (hl : Up l) (h0 : ∀ x ∈ l, 0 ≤ x) (hm : Mono hf l.length) : Fmd (makeTo l hf (2 ^ l.length)) := by
  refine ⟨fun p hp => ?_, make_sorted hl (Nat.le_refl _), fun p hp q hq hsub => ?_⟩
  · obtain ⟨b, _, _, rfl⟩ := make_mem.1 hp
    refine ⟨chosen_up hl, fun x hx => ?_⟩
    obtain ⟨i, hi, _, rfl⟩ := chosen_mem.1 hx
    rw [inAt_lt hi]
    exact h0 _ (List.getElem_mem hi)
  · obtain ⟨b, hb, hb1, rfl⟩ := make_mem.1 hp
    obtain ⟨b', hb', hb1', rfl⟩ := make_mem.1 hq
    obtain ⟨hh, _⟩ := least_iff.1 hb1
    obtain ⟨_, hn⟩ := least_iff.1 hb1'
    have hs := (chosen_sub hl).1 hsub
    have e : b = b' := by
      refine bits_eq hb hb' (fun i hi => ?_)
      cases hx : b'.testBit i with
      | false =>
        cases hy : b.testBit i with
        | false => rfl
        | true => rw [hs i hi hy] at hx; cases hx
      | true =>
        cases hy : b.testBit i with
        | true => rfl
        | false =>
          exfalso
          have h1 := hm b (b' ^^^ 2 ^ i) hb (flip_lt hb' hi) (fun k hk hbk => by
            have hne : i ≠ k := fun e => by rw [← e, hy] at hbk; cases hbk
            rw [flip_at, hs k hk hbk, decide_eq_false hne]; rfl) hh
          rw [hn i hi hx] at h1
          cases h1
    rw [e]
theorem least_below {hf : Nat → Bool} {m : Nat} : ∀ (n b : Nat), b ≤ n → b < 2 ^ m → hf b = true → ∃ c, c < 2 ^ m ∧ leastTo hf c m = true ∧ ∀ i, i < m → c.testBit i = true → b.testBit i = true
  | n, b, hn, hb, h => by
    by_cases hl : leastTo hf b m = true
    · exact ⟨b, hb, hl, fun _ _ h => h⟩
    · have : ∃ i, i < m ∧ b.testBit i = true ∧ hf (b ^^^ 2 ^ i) = true := by
        by_cases c : ∃ i, i < m ∧ b.testBit i = true ∧ hf (b ^^^ 2 ^ i) = true
        · exact c
        · refine absurd (least_iff.2 ⟨h, fun i hi ht => ?_⟩) hl
          cases hv : hf (b ^^^ 2 ^ i) with
          | false => rfl
          | true => exact absurd ⟨i, hi, ht, hv⟩ c
      obtain ⟨i, hi, ht, hv⟩ := this
      have hlt := flip_less ht
      cases n with
      | zero => omega
      | succ n =>
        obtain ⟨c, hc1, hc2, hc3⟩ := least_below n (b ^^^ 2 ^ i) (by omega) (flip_lt hb hi) hv
        refine ⟨c, hc1, hc2, fun k hk hck => ?_⟩
        have := hc3 k hk hck
        rw [flip_at] at this
        by_cases e : i = k
        · subst e; exact ht
        · rw [decide_eq_false e] at this; simpa using this
/-- The way that is on. -/
def maskTo (l on : List Int) : Nat → Nat
  | 0 => 0
  | i + 1 => if hasS on (inAt l i) then maskTo l on i ||| 2 ^ i else maskTo l on i
theorem mask_lt (l on : List Int) : ∀ i, maskTo l on i < 2 ^ i
  | 0 => by show 0 < 2 ^ 0; decide
  | i + 1 => by
    have ih := mask_lt l on i
    have h1 : 2 ^ i < 2 ^ (i + 1) := Nat.pow_lt_pow_right (by omega) (by omega)
    show (if _ then _ else _) < _
    split
    · exact Nat.or_lt_two_pow (by omega) h1
    · omega
theorem mask_at (l on : List Int) (k : Nat) : ∀ i, k < i → (maskTo l on i).testBit k = hasS on (inAt l k)
  | 0, h => by omega
  | i + 1, h => by
    show (if _ then _ else _ : Nat).testBit k = _
    by_cases e : k = i
    · subst e
      have h0 : (maskTo l on k).testBit k = false := Nat.testBit_lt_two_pow (mask_lt l on k)
      split
      · rename_i hh; rw [Nat.testBit_or, Nat.testBit_two_pow, h0, hh]; simp
      · rename_i hh; rw [h0]; simp at hh; exact hh.symm
    · have ih := mask_at l on k i (by omega)
      split
      · rw [Nat.testBit_or, Nat.testBit_two_pow, ih, decide_eq_false (fun e2 => e e2.symm), Bool.or_false]
      · exact ih
theorem chosen_on {l on : List Int} {b : Nat} : (∀ x ∈ chosenS l b, x ∈ on) ↔ ∀ i, i < l.length → b.testBit i = true → (maskTo l on l.length).testBit i = true := by
  constructor
  · intro h i hi ht
    rw [mask_at l on i _ hi]
    exact has_iff.2 (h _ (chosen_mem.2 ⟨i, hi, ht, rfl⟩))
  · intro h x hx
    obtain ⟨i, hi, ht, rfl⟩ := chosen_mem.1 hx
    have := h i hi ht
    rw [mask_at l on i _ hi] at this
    exact has_iff.1 this
theorem make_holds {l on : List Int} {hf : Nat → Bool} (hm : Mono hf l.length) : holdsS (makeTo l hf (2 ^ l.length)) on = hf (maskTo l on l.length) := by
  rw [Bool.eq_iff_iff, holds_iff]
  constructor
  · rintro ⟨p, hp, hsub⟩
    obtain ⟨b, hb, hl, rfl⟩ := make_mem.1 hp
    exact hm b _ hb (mask_lt _ _ _) (chosen_on.1 hsub) (least_iff.1 hl).1
  · intro h
    obtain ⟨c, hc1, hc2, hc3⟩ := least_below _ _ (Nat.le_refl _) (mask_lt l on l.length) h
    exact ⟨_, make_mem.2 ⟨c, hc1, hc2, rfl⟩, chosen_on.2 hc3⟩
theorem holds_mono {f : Fm} {on on' : List Int} (h : ∀ x ∈ on, x ∈ on') (hf : holdsS f on = true) : holdsS f on' = true := by
  obtain ⟨p, hp, hs⟩ := holds_iff.1 hf
  exact holds_iff.2 ⟨p, hp, fun x hx => h x (hs x hx)⟩
theorem holds_mask {f : Fm} {l on : List Int} (h : ∀ p ∈ f, ∀ x ∈ p, x ∈ l) : holdsS f (chosenS l (maskTo l on l.length)) = holdsS f on := by
  rw [Bool.eq_iff_iff]
  constructor
  · exact holds_mono (chosen_on.2 (fun i hi h => h))
  · intro hh
    obtain ⟨p, hp, hs⟩ := holds_iff.1 hh
    refine holds_iff.2 ⟨p, hp, fun x hx => ?_⟩
    obtain ⟨i, hi, rfl⟩ := List.mem_iff_getElem.1 (h p hp x hx)
    refine chosen_mem.2 ⟨i, hi, ?_, inAt_lt hi⟩
    rw [mask_at l on i _ hi, inAt_lt hi]
    exact has_iff.2 (hs _ hx)
theorem or_fmd {f g : Fm} (hf : Fmd f) (hg : Fmd g) : Fmd (opS 0 f g) ∧ ∀ on, holdsS (opS 0 f g) on = (holdsS f on || holdsS g on) := by
  have hl := atoms_up [f, g]
  have h0 : ∀ x ∈ atomsS [f, g], 0 ≤ x := fun x hx => by
    obtain ⟨k, hk, p, hp, hx⟩ := atoms_mem.1 hx
    rcases List.mem_cons.1 hk with e | hk
    · rw [e] at hp; exact (hf.up p hp).2 x hx
    · rw [List.mem_singleton.1 hk] at hp; exact (hg.up p hp).2 x hx
  have hm : Mono (opHf 0 f g (atomsS [f, g]) (2 ^ (atomsS [f, g]).length)) (atomsS [f, g]).length := fun b b' _ _ hs h => by
    have hsub := (chosen_sub (b := b) (b' := b') hl).2 hs
    unfold opHf at h ⊢
    rw [if_pos rfl, Bool.or_eq_true] at h ⊢
    rcases h with h | h
    · exact Or.inl (holds_mono hsub h)
    · exact Or.inr (holds_mono hsub h)
  have e : opAtoms 0 f g = atomsS [f, g] := by unfold opAtoms; rw [if_neg (by omega)]
  unfold opS
  rw [e]
  refine ⟨make_fmd hl h0 hm, fun on => ?_⟩
  rw [make_holds hm]
  unfold opHf
  rw [if_pos rfl, holds_mask (fun p hp x hx => atoms_mem.2 ⟨f, by simp, p, hp, hx⟩), holds_mask (fun p hp x hx => atoms_mem.2 ⟨g, by simp, p, hp, hx⟩)]
theorem and_fmd {f g : Fm} (hf : Fmd f) (hg : Fmd g) : Fmd (opS 1 f g) ∧ ∀ on, holdsS (opS 1 f g) on = (holdsS f on && holdsS g on) := by
  have hl := atoms_up [f, g]
  have h0 : ∀ x ∈ atomsS [f, g], 0 ≤ x := fun x hx => by
    obtain ⟨k, hk, p, hp, hx⟩ := atoms_mem.1 hx
    rcases List.mem_cons.1 hk with e | hk
    · rw [e] at hp; exact (hf.up p hp).2 x hx
    · rw [List.mem_singleton.1 hk] at hp; exact (hg.up p hp).2 x hx
  have hm : Mono (opHf 1 f g (atomsS [f, g]) (2 ^ (atomsS [f, g]).length)) (atomsS [f, g]).length := fun b b' _ _ hs h => by
    have hsub := (chosen_sub (b := b) (b' := b') hl).2 hs
    unfold opHf at h ⊢
    rw [if_neg (by omega), if_pos rfl, Bool.and_eq_true] at h ⊢
    exact ⟨holds_mono hsub h.1, holds_mono hsub h.2⟩
  have e : opAtoms 1 f g = atomsS [f, g] := by unfold opAtoms; rw [if_neg (by omega)]
  unfold opS
  rw [e]
  refine ⟨make_fmd hl h0 hm, fun on => ?_⟩
  rw [make_holds hm]
  unfold opHf
  rw [if_neg (by omega), if_pos rfl, holds_mask (fun p hp x hx => atoms_mem.2 ⟨f, by simp, p, hp, hx⟩), holds_mask (fun p hp x hx => atoms_mem.2 ⟨g, by simp, p, hp, hx⟩)]
/-- The dual holds where the formula doesn't, with all its other numbers on. -/
theorem dual_fmd {f g : Fm} (hf : Fmd f) : Fmd (opS 2 f g) ∧ ∀ on on', (∀ p ∈ f, ∀ x ∈ p, (x ∈ on' ↔ ¬ x ∈ on)) → holdsS (opS 2 f g) on = !holdsS f on' := by
  have hl := atoms_up [f]
  have h0 : ∀ x ∈ atomsS [f], 0 ≤ x := fun x hx => by
    obtain ⟨k, hk, p, hp, hx⟩ := atoms_mem.1 hx
    rw [List.mem_singleton.1 hk] at hp; exact (hf.up p hp).2 x hx
  have hflip : ∀ b i, b < 2 ^ (atomsS [f]).length → i < (atomsS [f]).length → (2 ^ (atomsS [f]).length - 1 - b).testBit i = !b.testBit i := fun b i hb hi => by
    rw [show 2 ^ (atomsS [f]).length - 1 - b = 2 ^ (atomsS [f]).length - (b + 1) by omega, Nat.testBit_two_pow_sub_succ hb, decide_eq_true hi, Bool.true_and]
  have hm : Mono (opHf 2 f g (atomsS [f]) (2 ^ (atomsS [f]).length)) (atomsS [f]).length := fun b b' hb hb' hs h => by
    unfold opHf at h ⊢
    rw [if_neg (by omega), if_neg (by omega)] at h ⊢
    cases hv : holdsS f (chosenS (atomsS [f]) (2 ^ (atomsS [f]).length - 1 - b')) with
    | false => rfl
    | true =>
      have := holds_mono ((chosen_sub (b := 2 ^ (atomsS [f]).length - 1 - b') (b' := 2 ^ (atomsS [f]).length - 1 - b) hl).2 (fun i hi ht => by
        rw [hflip b' i hb' hi] at ht
        rw [hflip b i hb hi]
        cases hx : b.testBit i with
        | false => rfl
        | true => rw [hs i hi hx] at ht; cases ht)) hv
      rw [this] at h
      cases h
  have e : opAtoms 2 f g = atomsS [f] := by unfold opAtoms; rw [if_pos rfl]
  unfold opS
  rw [e]
  refine ⟨make_fmd hl h0 hm, fun on on' hon => ?_⟩
  rw [make_holds hm]
  unfold opHf
  rw [if_neg (by omega), if_neg (by omega)]
  congr 1
  rw [Bool.eq_iff_iff]
  have hin : ∀ p ∈ f, ∀ x ∈ p, x ∈ atomsS [f] := fun p hp x hx => atoms_mem.2 ⟨f, by simp, p, hp, hx⟩
  have hmem : ∀ p ∈ f, ∀ x ∈ p, (x ∈ chosenS (atomsS [f]) (2 ^ (atomsS [f]).length - 1 - maskTo (atomsS [f]) on (atomsS [f]).length) ↔ x ∈ on') := fun p hp x hx => by
    obtain ⟨i, hi, hxi⟩ := List.mem_iff_getElem.1 (hin p hp x hx)
    rw [hon p hp x hx]
    constructor
    · intro hc hxo
      obtain ⟨k, hk, hkt, e⟩ := chosen_mem.1 hc
      rw [hflip _ k (mask_lt _ _ _) hk, mask_at _ on k _ hk, e, has_iff.2 hxo] at hkt
      cases hkt
    · intro hno
      refine chosen_mem.2 ⟨i, hi, ?_, by rw [inAt_lt hi]; exact hxi⟩
      rw [hflip _ i (mask_lt _ _ _) hi, mask_at _ on i _ hi, inAt_lt hi, hxi]
      cases hv : hasS on x with
      | false => rfl
      | true => exact absurd (has_iff.1 hv) hno
  constructor
  · intro h
    obtain ⟨p, hp, hs⟩ := holds_iff.1 h
    exact holds_iff.2 ⟨p, hp, fun x hx => (hmem p hp x hx).1 (hs x hx)⟩
  · intro h
    obtain ⟨p, hp, hs⟩ := holds_iff.1 h
    exact holds_iff.2 ⟨p, hp, fun x hx => (hmem p hp x hx).2 (hs x hx)⟩

end Go.Proofs.YtehokjaojanieaaDoor
