/- What a pattern turned round matches: backwards what the pattern does. No program is walked here. -/
import Derived.Test.YtoicbahkoejhjaaStrip
import Derived.Test.YtoicbahkoejhjaaTabs
import Derived.Test.YtoicbahkoejhjaaSpansAt
import Derived.Test.YtoicbahkoejhjaaAny
import Derived.Test.YtoicbahkoejhjaaLook
import Derived.Test.YtoicbahkoejhjaaThen
import Derived.Test.YtoicbahkoejhjaaOne
namespace Go.Proofs.Ytoicbahkoejhjaa
open Go.RowKit

abbrev Tbl := Nat → Nat → Bool
/-- Two tables of n places say the same. -/
def Eqv (n : Nat) (f g : Tbl) : Prop := ∀ i j, i < n → j < n → f i j = g i j
/-- A table seen from the other end. -/
def flipF (n : Nat) (f : Tbl) : Tbl := fun i j => f (n - 1 - j) (n - 1 - i)
theorem Eqv.refl (n : Nat) (f : Tbl) : Eqv n f f := fun _ _ _ _ => rfl
theorem Eqv.symm {n : Nat} {f g : Tbl} (h : Eqv n f g) : Eqv n g f := fun i j hi hj => (h i j hi hj).symm
theorem Eqv.trans {n : Nat} {f g h : Tbl} (a : Eqv n f g) (b : Eqv n g h) : Eqv n f h := fun i j hi hj => (a i j hi hj).trans (b i j hi hj)
theorem flip_congr {n : Nat} {f g : Tbl} (h : Eqv n f g) : Eqv n (flipF n f) (flipF n g) := fun i j hi hj => h _ _ (by omega) (by omega)
theorem flip_flip (n : Nat) (f : Tbl) : Eqv n (flipF n (flipF n f)) f := fun i j hi hj => by
  show f (n - 1 - (n - 1 - i)) (n - 1 - (n - 1 - j)) = f i j
  rw [show n - 1 - (n - 1 - i) = i by omega, show n - 1 - (n - 1 - j) = j by omega]

theorem then_iff (f g : Tbl) (n i j : Nat) : thenF f g n i j = true ↔ ∃ m, m < n ∧ i ≤ m ∧ m ≤ j ∧ f i m = true ∧ g m j = true := by
  unfold thenF thenPart
  rw [List.any_eq_true]
  constructor
  · rintro ⟨m, hm, h⟩
    rw [Bool.and_eq_true, Bool.and_eq_true, decide_eq_true_iff] at h
    exact ⟨m, List.mem_range.1 hm, h.1.1, h.1.2, h.2.1, h.2.2⟩
  · rintro ⟨m, hm, h1, h2, h3, h4⟩
    exact ⟨m, List.mem_range.2 hm, by rw [h3, h4, decide_eq_true ⟨h1, h2⟩]; rfl⟩
theorem bool_iff {a b : Bool} (h : a = true ↔ b = true) : a = b := by cases a <;> cases b <;> simp_all
theorem then_congr {n : Nat} {f f' g g' : Tbl} (hf : Eqv n f f') (hg : Eqv n g g') : Eqv n (thenF f g n) (thenF f' g' n) := fun i j hi hj => bool_iff (by
  rw [then_iff, then_iff]
  constructor
  · rintro ⟨m, h0, h1, h2, h3, h4⟩
    exact ⟨m, h0, h1, h2, by rw [← hf i m hi h0]; exact h3, by rw [← hg m j h0 hj]; exact h4⟩
  · rintro ⟨m, h0, h1, h2, h3, h4⟩
    exact ⟨m, h0, h1, h2, by rw [hf i m hi h0]; exact h3, by rw [hg m j h0 hj]; exact h4⟩)
theorem then_assoc (n : Nat) (f g h : Tbl) : Eqv n (thenF (thenF f g n) h n) (thenF f (thenF g h n) n) := fun i j hi hj => bool_iff (by
  rw [then_iff, then_iff]
  constructor
  · rintro ⟨k, k0, k1, k2, k3, k4⟩
    obtain ⟨m, m0, m1, m2, m3, m4⟩ := (then_iff _ _ _ _ _).1 k3
    exact ⟨m, m0, m1, by omega, m3, (then_iff _ _ _ _ _).2 ⟨k, k0, m2, k2, m4, k4⟩⟩
  · rintro ⟨m, m0, m1, m2, m3, m4⟩
    obtain ⟨k, k0, k1, k2, k3, k4⟩ := (then_iff _ _ _ _ _).1 m4
    exact ⟨k, k0, by omega, k2, (then_iff _ _ _ _ _).2 ⟨m, m0, m1, k1, m3, k3⟩, k4⟩)
theorem then_flip (n : Nat) (f g : Tbl) : Eqv n (flipF n (thenF f g n)) (thenF (flipF n g) (flipF n f) n) := fun i j hi hj => bool_iff (by
  show thenF f g n (n - 1 - j) (n - 1 - i) = true ↔ _
  rw [then_iff, then_iff]
  constructor
  · rintro ⟨m, m0, m1, m2, m3, m4⟩
    refine ⟨n - 1 - m, by omega, by omega, by omega, ?_, ?_⟩
    · show g (n - 1 - (n - 1 - m)) (n - 1 - i) = true
      rw [show n - 1 - (n - 1 - m) = m by omega]; exact m4
    · show f (n - 1 - j) (n - 1 - (n - 1 - m)) = true
      rw [show n - 1 - (n - 1 - m) = m by omega]; exact m3
  · rintro ⟨m, m0, m1, m2, m3, m4⟩
    exact ⟨n - 1 - m, by omega, by omega, by omega, m4, m3⟩)
theorem eqF_iff (i j : Nat) : eqF i j = true ↔ i = j := by unfold eqF; exact decide_eq_true_iff
/-- What 'eqF' does ahead and behind: nothing, but that only i ≤ j is left. -/
theorem eq_then_swap (n : Nat) (f : Tbl) : Eqv n (thenF eqF f n) (thenF f eqF n) := fun i j hi hj => bool_iff (by
  rw [then_iff, then_iff]
  constructor
  · rintro ⟨m, m0, m1, m2, m3, m4⟩
    obtain rfl := (eqF_iff _ _).1 m3
    exact ⟨j, hj, by omega, Nat.le_refl _, m4, (eqF_iff _ _).2 rfl⟩
  · rintro ⟨m, m0, m1, m2, m3, m4⟩
    obtain rfl := (eqF_iff _ _).1 m4
    exact ⟨i, hi, Nat.le_refl _, by omega, (eqF_iff _ _).2 rfl, m3⟩)
theorem eq_flip (n : Nat) : Eqv n (flipF n eqF) eqF := fun i j hi hj => bool_iff (by
  show eqF (n - 1 - j) (n - 1 - i) = true ↔ _
  rw [eqF_iff, eqF_iff]; omega)
/-- A list of tables, one behind the other. -/
def seqF (n : Nat) (fs : List Tbl) (f0 : Tbl) : Tbl := fs.foldl (fun f g => thenF f g n) f0
theorem seq_congr {n : Nat} : ∀ {fs gs : List Tbl} {f g : Tbl}, fs.length = gs.length → (∀ (j : Nat) (h : j < fs.length) (h' : j < gs.length), Eqv n fs[j] gs[j]) → Eqv n f g → Eqv n (seqF n fs f) (seqF n gs g)
  | [], [], _, _, _, _, h => h
  | [], _ :: _, _, _, e, _, _ => by simp at e
  | _ :: _, [], _, _, e, _, _ => by simp at e
  | x :: r, y :: s, _, _, e, h, h0 => seq_congr (fs := r) (gs := s) (by simpa using e) (fun j hj hj' => h (j + 1) (by simpa using hj) (by simpa using hj')) (then_congr h0 (h 0 (by simp) (by simp)))
theorem seq_front (n : Nat) : ∀ (fs : List Tbl) (f g : Tbl), Eqv n (seqF n fs (thenF f g n)) (thenF f (seqF n fs g) n)
  | [], f, g => Eqv.refl _ _
  | x :: r, f, g => by
    show Eqv n (seqF n r (thenF (thenF f g n) x n)) (thenF f (seqF n r (thenF g x n)) n)
    exact (seq_congr rfl (fun j _ _ => Eqv.refl _ _) (then_assoc n f g x)).trans (seq_front n r f (thenF g x n))
theorem seq_flip (n : Nat) : ∀ (fs : List Tbl), Eqv n (flipF n (seqF n fs eqF)) (seqF n (fs.map (flipF n)).reverse eqF)
  | [] => eq_flip n
  | x :: r => by
    have h1 : Eqv n (seqF n (x :: r) eqF) (thenF x (seqF n r eqF) n) := by
      show Eqv n (seqF n r (thenF eqF x n)) _
      exact (seq_congr rfl (fun j _ _ => Eqv.refl _ _) (eq_then_swap n x)).trans (seq_front n r x eqF)
    refine (flip_congr h1).trans ((then_flip n _ _).trans ?_)
    have e : seqF n ((x :: r).map (flipF n)).reverse eqF = thenF (seqF n (r.map (flipF n)).reverse eqF) (flipF n x) n := by
      unfold seqF
      rw [List.map_cons, List.reverse_cons, List.foldl_append]; rfl
    rw [e]
    exact then_congr (seq_flip n r) (Eqv.refl _ _)
theorem or_flip (n : Nat) (f g : Tbl) : flipF n (fun i j => f i j || g i j) = fun i j => flipF n f i j || flipF n g i j := rfl
theorem orl_congr {n : Nat} : ∀ {fs gs : List Tbl} {f g : Tbl}, fs.length = gs.length → (∀ (j : Nat) (h : j < fs.length) (h' : j < gs.length), Eqv n fs[j] gs[j]) → Eqv n f g → Eqv n (fs.foldl (fun f g i j => f i j || g i j) f) (gs.foldl (fun f g i j => f i j || g i j) g)
  | [], [], _, _, _, _, h => h
  | [], _ :: _, _, _, e, _, _ => by simp at e
  | _ :: _, [], _, _, e, _, _ => by simp at e
  | x :: r, y :: s, _, _, e, h, h0 => orl_congr (fs := r) (gs := s) (by simpa using e) (fun j hj hj' => h (j + 1) (by simpa using hj) (by simpa using hj')) (fun i j hi hj => by
      have hx : x i j = y i j := h 0 (by simp) (by simp) i j hi hj
      show (_ || x i j) = (_ || y i j); rw [h0 i j hi hj, hx])
theorem andl_congr {n : Nat} : ∀ {fs gs : List Tbl} {f g : Tbl}, fs.length = gs.length → (∀ (j : Nat) (h : j < fs.length) (h' : j < gs.length), Eqv n fs[j] gs[j]) → Eqv n f g → Eqv n (fs.foldl (fun f g i j => f i j && g i j) f) (gs.foldl (fun f g i j => f i j && g i j) g)
  | [], [], _, _, _, _, h => h
  | [], _ :: _, _, _, e, _, _ => by simp at e
  | _ :: _, [], _, _, e, _, _ => by simp at e
  | x :: r, y :: s, _, _, e, h, h0 => andl_congr (fs := r) (gs := s) (by simpa using e) (fun j hj hj' => h (j + 1) (by simpa using hj) (by simpa using hj')) (fun i j hi hj => by
      have hx : x i j = y i j := h 0 (by simp) (by simp) i j hi hj
      show (_ && x i j) = (_ && y i j); rw [h0 i j hi hj, hx])
theorem orl_flip (n : Nat) : ∀ (fs : List Tbl) (f : Tbl), flipF n (fs.foldl (fun f g i j => f i j || g i j) f) = (fs.map (flipF n)).foldl (fun f g i j => f i j || g i j) (flipF n f)
  | [], _ => rfl
  | x :: r, f => by rw [List.foldl_cons, orl_flip n r]; rfl
theorem andl_flip (n : Nat) : ∀ (fs : List Tbl) (f : Tbl), flipF n (fs.foldl (fun f g i j => f i j && g i j) f) = (fs.map (flipF n)).foldl (fun f g i j => f i j && g i j) (flipF n f)
  | [], _ => rfl
  | x :: r, f => by rw [List.foldl_cons, andl_flip n r]; rfl
theorem other_congr {n : Nat} {f g : Tbl} (h : Eqv n f g) : Eqv n (otherF f) (otherF g) := fun i j hi hj => by unfold otherF; rw [h i j hi hj]
theorem other_flip (n : Nat) (f : Tbl) : Eqv n (flipF n (otherF f)) (otherF (flipF n f)) := fun i j hi hj => by
  show (decide (n - 1 - j ≤ n - 1 - i) && !f (n - 1 - j) (n - 1 - i)) = (decide (i ≤ j) && !f (n - 1 - j) (n - 1 - i))
  congr 1
  exact decide_eq_decide.2 (by omega)
/- So many times. -/
theorem or_then_l (n : Nat) (f g h : Tbl) : Eqv n (thenF (fun i j => f i j || g i j) h n) (fun i j => thenF f h n i j || thenF g h n i j) := fun i j hi hj => bool_iff (by
  rw [Bool.or_eq_true, then_iff, then_iff, then_iff]
  constructor
  · rintro ⟨m, m0, m1, m2, m3, m4⟩
    rcases Bool.or_eq_true _ _ ▸ m3 with q | q
    · exact Or.inl ⟨m, m0, m1, m2, q, m4⟩
    · exact Or.inr ⟨m, m0, m1, m2, q, m4⟩
  · rintro (⟨m, m0, m1, m2, m3, m4⟩ | ⟨m, m0, m1, m2, m3, m4⟩)
    · exact ⟨m, m0, m1, m2, by show (f i m || g i m) = true; rw [m3]; rfl, m4⟩
    · exact ⟨m, m0, m1, m2, by show (f i m || g i m) = true; rw [m3, Bool.or_true], m4⟩)
theorem or_then_r (n : Nat) (f g h : Tbl) : Eqv n (thenF h (fun i j => f i j || g i j) n) (fun i j => thenF h f n i j || thenF h g n i j) := fun i j hi hj => bool_iff (by
  rw [Bool.or_eq_true, then_iff, then_iff, then_iff]
  constructor
  · rintro ⟨m, m0, m1, m2, m3, m4⟩
    rcases Bool.or_eq_true _ _ ▸ m4 with q | q
    · exact Or.inl ⟨m, m0, m1, m2, m3, q⟩
    · exact Or.inr ⟨m, m0, m1, m2, m3, q⟩
  · rintro (⟨m, m0, m1, m2, m3, m4⟩ | ⟨m, m0, m1, m2, m3, m4⟩)
    · exact ⟨m, m0, m1, m2, m3, by show (f m j || g m j) = true; rw [m4]; rfl⟩
    · exact ⟨m, m0, m1, m2, m3, by show (f m j || g m j) = true; rw [m4, Bool.or_true]⟩)
theorem or_congr {n : Nat} {f f' g g' : Tbl} (h : Eqv n f f') (h' : Eqv n g g') : Eqv n (fun i j => f i j || g i j) (fun i j => f' i j || g' i j) := fun i j hi hj => by
  show (_ || _) = (_ || _); rw [h i j hi hj, h' i j hi hj]
theorem pow_swap (n : Nat) (a : Tbl) : ∀ m, Eqv n (thenF (powF a n m) a n) (thenF a (powF a n m) n)
  | 0 => eq_then_swap n a
  | m + 1 => (then_congr (pow_swap n a m) (Eqv.refl _ _)).trans (then_assoc n a (powF a n m) a)
theorem any_swap (n : Nat) (a : Tbl) : ∀ m, Eqv n (thenF (anyTo a n m) a n) (thenF a (anyTo a n m) n)
  | 0 => eq_then_swap n a
  | m + 1 => by
    refine (or_then_l n _ _ _).trans (Eqv.trans ?_ (or_then_r n _ _ _).symm)
    exact or_congr (any_swap n a m) ((then_congr (any_swap n a m) (Eqv.refl _ _)).trans (then_assoc n a (anyTo a n m) a))
theorem pow_flip (n : Nat) (a : Tbl) : ∀ m, Eqv n (flipF n (powF a n m)) (powF (flipF n a) n m)
  | 0 => eq_flip n
  | m + 1 => (then_flip n _ _).trans ((then_congr (Eqv.refl _ _) (pow_flip n a m)).trans (pow_swap n (flipF n a) m).symm)
theorem any_flip (n : Nat) (a : Tbl) : ∀ m, Eqv n (flipF n (anyTo a n m)) (anyTo (flipF n a) n m)
  | 0 => eq_flip n
  | m + 1 => by
    show Eqv n (fun i j => flipF n (anyTo a n m) i j || flipF n (thenF (anyTo a n m) a n) i j) _
    refine or_congr (any_flip n a m) ?_
    exact (then_flip n _ _).trans ((then_congr (Eqv.refl _ _) (any_flip n a m)).trans (any_swap n (flipF n a) m).symm)
theorem pow_any_swap (n : Nat) (a : Tbl) (l : Nat) : ∀ m, Eqv n (thenF (powF a n l) (anyTo a n m) n) (thenF (anyTo a n m) (powF a n l) n)
  | 0 => (eq_then_swap n _).symm
  | m + 1 => by
    refine (or_then_r n _ _ _).trans (Eqv.trans ?_ (or_then_l n _ _ _).symm)
    refine or_congr (pow_any_swap n a l m) ?_
    refine (then_assoc n _ _ _).symm.trans ?_
    refine (then_congr (pow_any_swap n a l m) (Eqv.refl _ _)).trans ?_
    refine (then_assoc n _ _ _).trans ?_
    refine (then_congr (Eqv.refl _ _) (pow_swap n a l)).trans ?_
    exact (then_assoc n _ _ _).symm
theorem out_flip (n : Nat) (a : Tbl) (l : Nat) : ∀ m, Eqv n (flipF n (outF a n l m)) (outF (flipF n a) n l m)
  | 0 => pow_flip n a l
  | m + 1 => or_congr (out_flip n a l m) (pow_flip n a (l + (m + 1)))
theorem times_flip (n : Nat) (a : Tbl) (l : Nat) (hi : Int) : Eqv n (flipF n (timesT a n l hi)) (timesT (flipF n a) n l hi) := by
  unfold timesT
  by_cases h : hi < 0
  · rw [if_pos h, if_pos h]
    exact (then_flip n _ _).trans ((then_congr (any_flip n a n) (pow_flip n a l)).trans (pow_any_swap n (flipF n a) l n).symm)
  · rw [if_neg h, if_neg h]
    exact out_flip n a l _
theorem pow_congr {n : Nat} {f g : Tbl} (h : Eqv n f g) : ∀ m, Eqv n (powF f n m) (powF g n m)
  | 0 => Eqv.refl _ _
  | m + 1 => then_congr (pow_congr h m) h
theorem any_congr {n : Nat} {f g : Tbl} (h : Eqv n f g) : ∀ m, Eqv n (anyTo f n m) (anyTo g n m)
  | 0 => Eqv.refl _ _
  | m + 1 => or_congr (any_congr h m) (then_congr (any_congr h m) h)
theorem out_congr {n : Nat} {f g : Tbl} (h : Eqv n f g) (l : Nat) : ∀ m, Eqv n (outF f n l m) (outF g n l m)
  | 0 => pow_congr h l
  | m + 1 => or_congr (out_congr h l m) (pow_congr h _)
theorem times_congr {n : Nat} {f g : Tbl} (h : Eqv n f g) (l : Nat) (hi : Int) : Eqv n (timesT f n l hi) (timesT g n l hi) := by
  unfold timesT
  by_cases q : hi < 0
  · rw [if_pos q, if_pos q]; exact then_congr (pow_congr h l) (any_congr h n)
  · rw [if_neg q, if_neg q]; exact out_congr h l _
/- Looks. -/
theorem is_iff (f : Tbl) (back : Bool) (i n : Nat) : isTo f back i n = true ↔ ∃ k, k < n ∧ (bif back then f k i else f i k) = true := by
  unfold isTo; rw [List.any_eq_true]
  exact ⟨fun ⟨k, hk, h⟩ => ⟨k, List.mem_range.1 hk, h⟩, fun ⟨k, hk, h⟩ => ⟨k, List.mem_range.2 hk, h⟩⟩
theorem look_flip (n : Nat) (f : Tbl) (back neg : Bool) : Eqv n (flipF n (lookF f n back neg)) (lookF (flipF n f) n (!back) neg) := fun i j hi hj => by
  show lookF f n back neg (n - 1 - j) (n - 1 - i) = _
  unfold lookF
  by_cases e : i = j
  · subst e
    rw [if_pos rfl, if_pos rfl]
    have : isTo f back (n - 1 - i) n = isTo (flipF n f) (!back) i n := bool_iff (by
      rw [is_iff, is_iff]
      constructor
      · rintro ⟨k, hk, h⟩
        refine ⟨n - 1 - k, by omega, ?_⟩
        cases back
        · show f (n - 1 - i) (n - 1 - (n - 1 - k)) = true
          rw [show n - 1 - (n - 1 - k) = k by omega]; exact h
        · show f (n - 1 - (n - 1 - k)) (n - 1 - i) = true
          rw [show n - 1 - (n - 1 - k) = k by omega]; exact h
      · rintro ⟨k, hk, h⟩
        refine ⟨n - 1 - k, by omega, ?_⟩
        cases back
        · exact h
        · exact h)
    rw [this]
  · rw [if_neg (by omega), if_neg e]
theorem look_congr {n : Nat} {f g : Tbl} (h : Eqv n f g) (back neg : Bool) : Eqv n (lookF f n back neg) (lookF g n back neg) := fun i j hi hj => by
  unfold lookF
  by_cases e : i = j
  · subst e
    rw [if_pos rfl, if_pos rfl]
    have : isTo f back i n = isTo g back i n := bool_iff (by
      rw [is_iff, is_iff]
      constructor
      · rintro ⟨k, hk, q⟩
        refine ⟨k, hk, ?_⟩
        cases back
        · show g i k = true; rw [← h i k hi hk]; exact q
        · show g k i = true; rw [← h k i hk hi]; exact q
      · rintro ⟨k, hk, q⟩
        refine ⟨k, hk, ?_⟩
        cases back
        · show f i k = true; rw [h i k hi hk]; exact q
        · show f k i = true; rw [h k i hk hi]; exact q)
    rw [this]
  · rw [if_neg e, if_neg e]
/- Bytes and the two ends. -/
theorem rev_at (l : List Nat) (i : Nat) (h : i < l.length) : (l.reverse[i]?).getD 0 = (l[l.length - 1 - i]?).getD 0 := by
  rw [List.getElem?_eq_getElem (by simpa using h), List.getElem_reverse, List.getElem?_eq_getElem (by omega)]
theorem byte_flip (s : St) (l : List Nat) (n : Nat) (hn : n = l.length + 1) : Eqv n (byteF s l.reverse) (flipF n (byteF s l)) := fun i j hi hj => by
  show (decide (j = i + 1 ∧ i < l.reverse.length) && s.has ((l.reverse[i]?).getD 0)) = (decide (n - 1 - i = n - 1 - j + 1 ∧ n - 1 - j < l.length) && s.has ((l[n - 1 - j]?).getD 0))
  rw [List.length_reverse]
  by_cases e : j = i + 1 ∧ i < l.length
  · rw [decide_eq_true e, decide_eq_true (by omega), rev_at l i e.2, show n - 1 - j = l.length - 1 - i by omega]
  · rw [decide_eq_false e, decide_eq_false (by omega)]; rfl
theorem end_flip (l : List Nat) (n : Nat) (hn : n = l.length + 1) : Eqv n (endF l.reverse) (flipF n (beginF l)) := fun i j hi hj => by
  show (decide (i = j) && (decide (i = l.reverse.length) || decide ((l.reverse[i]?).getD 0 = 10))) = (decide (n - 1 - j = n - 1 - i) && (decide (n - 1 - j = 0) || decide ((l[n - 1 - j - 1]?).getD 0 = 10)))
  rw [List.length_reverse]
  by_cases e : i = j
  · subst e
    rw [decide_eq_true rfl, decide_eq_true rfl]
    by_cases q : i = l.length
    · rw [decide_eq_true q, decide_eq_true (p := n - 1 - i = 0) (by omega)]; rfl
    · rw [decide_eq_false q, decide_eq_false (p := n - 1 - i = 0) (by omega), rev_at l i (by omega), show n - 1 - i - 1 = l.length - 1 - i by omega]
  · rw [decide_eq_false e, decide_eq_false (p := n - 1 - j = n - 1 - i) (by omega)]; rfl
theorem begin_flip (l : List Nat) (n : Nat) (hn : n = l.length + 1) : Eqv n (beginF l.reverse) (flipF n (endF l)) := fun i j hi hj => by
  show (decide (i = j) && (decide (i = 0) || decide ((l.reverse[i - 1]?).getD 0 = 10))) = (decide (n - 1 - j = n - 1 - i) && (decide (n - 1 - j = l.length) || decide ((l[n - 1 - j]?).getD 0 = 10)))
  by_cases e : i = j
  · subst e
    rw [decide_eq_true rfl, decide_eq_true rfl]
    by_cases q : i = 0
    · rw [decide_eq_true q, decide_eq_true (p := n - 1 - i = l.length) (by omega)]; rfl
    · rw [decide_eq_false q, decide_eq_false (p := n - 1 - i = l.length) (by omega), rev_at l (i - 1) (by omega), show n - 1 - i = l.length - 1 - (i - 1) by omega]
  · rw [decide_eq_false e, decide_eq_false (p := n - 1 - j = n - 1 - i) (by omega)]; rfl

/-- The tables hang on the pattern, not on where it lies. -/
theorem spans_congr (l : List Nat) : ∀ (k : Nat) (a b : Tr), a.strip k = b.strip k → spansS l k a = spansS l k b
  | 0, _, _, _ => rfl
  | k + 1, a, b, h => by
    obtain ⟨e1, e2, e3, e4, e5, e6, e7⟩ := strip_parts h
    unfold spansS
    rw [map_strip (spans_congr l k) e7, e1, e2, e3, e4, e5]
theorem head_eqv {n : Nat} {fs gs : List Tbl} (h1 : fs.length = 1) (h2 : gs.length = 1) (h : Eqv n (fs[0]'(by omega)) (gs[0]'(by omega))) : Eqv n (fs.headD noF) (gs.headD noF) := by
  rw [headD_get fs (by omega), headD_get gs (by omega)]; exact h
theorem head_flip {n : Nat} {fs : List Tbl} (h1 : fs.length = 1) : (fs.map (flipF n)).headD noF = flipF n (fs.headD noF) := by
  cases fs with
  | nil => simp at h1
  | cons x r => rfl

/-- WHAT TURNING DOES: over the input backwards the turned pattern matches what the pattern does, seen from the other end. -/
theorem spans_turn (l : List Nat) : ∀ (k : Nat) (t : Tr), formedS k t = true → Eqv (l.length + 1) (spansS l.reverse k (turnS k t)) (flipF (l.length + 1) (spansS l k t))
  | 0, _, h => by cases h
  | k + 1, t, h => by
    obtain ⟨n, hn⟩ : ∃ n, n = l.length + 1 := ⟨_, rfl⟩
    have hnr : n = l.reverse.length + 1 := by rw [List.length_reverse]; exact hn
    rw [← hn]
    have hk : (turnS (k + 1) t).kind = turnKind t.kind := rfl
    have hset : (turnS (k + 1) t).set = t.set := rfl
    have hlo : (turnS (k + 1) t).lo = t.lo := rfl
    have hhi : (turnS (k + 1) t).hi = t.hi := rfl
    have hneg : (turnS (k + 1) t).neg = t.neg := rfl
    have ih : ∀ (j : Nat) (hj : j < t.parts.length), Eqv n (spansS l.reverse k (turnS k t.parts[j])) (flipF n (spansS l k t.parts[j])) := fun j hj => by
      rw [hn]; exact spans_turn l k t.parts[j] (formed_part h hj)
    have hr : 0 ≤ t.kind ∧ t.kind ≤ 11 := (of_decide_eq_true (formed_own h)).1
    have hmap : ((t.parts.map (turnS k)).map (spansS l.reverse k)).length = ((t.parts.map (spansS l k)).map (flipF n)).length := by simp
    have heach : ∀ (j : Nat) (h1 : j < ((t.parts.map (turnS k)).map (spansS l.reverse k)).length) (h2 : j < ((t.parts.map (spansS l k)).map (flipF n)).length), Eqv n ((t.parts.map (turnS k)).map (spansS l.reverse k))[j] ((t.parts.map (spansS l k)).map (flipF n))[j] := fun j h1 h2 => by
      have := ih j (by simpa using h1)
      simpa using this
    have hparts : ¬ t.kind = 3 → (turnS (k + 1) t).parts = t.parts.map (turnS k) := fun q => by rw [turnS_parts, if_neg q]
    have hlow : t.kind < 8 → turnKind t.kind = t.kind := fun q => turnKind_low _ (Or.inr q)
    by_cases h0 : t.kind = 0
    · rw [spans_0 (by rw [hk, hlow (by omega)]; exact h0) hnr, spans_0 h0 hn]; exact fun _ _ _ _ => rfl
    by_cases h1 : t.kind = 1
    · rw [spans_1 (by rw [hk, hlow (by omega)]; exact h1) hnr, spans_1 h1 hn]; exact (eq_flip n).symm
    by_cases h2 : t.kind = 2
    · rw [spans_2 (by rw [hk, hlow (by omega)]; exact h2) hnr, spans_2 h2 hn, hset]; exact byte_flip t.set l n hn
    by_cases h3 : t.kind = 3
    · rw [spans_3 (by rw [hk, hlow (by omega)]; exact h3) hnr, spans_3 h3 hn, turnS_parts, if_pos h3, List.map_reverse]
      refine Eqv.trans ?_ (seq_flip n (t.parts.map (spansS l k))).symm
      exact seq_congr (by simp) (fun j h1 h2 => by
        have h1' : j < t.parts.length := by simpa using h1
        have := heach (t.parts.length - 1 - j) (by simp; omega) (by simp; omega)
        simpa [List.getElem_reverse] using this) (Eqv.refl _ _)
    by_cases h4 : t.kind = 4
    · rw [spans_4 (by rw [hk, hlow (by omega)]; exact h4) hnr, spans_4 h4 hn, hparts h3, orl_flip]
      exact orl_congr hmap heach (fun _ _ _ _ => rfl)
    by_cases h5 : t.kind = 5
    · rw [spans_5 (by rw [hk, hlow (by omega)]; exact h5) hnr, spans_5 h5 hn, hparts h3, andl_flip]
      exact andl_congr hmap heach (other_flip n noF).symm
    have hone : t.kind = 6 ∨ t.kind = 7 ∨ t.kind = 8 ∨ t.kind = 9 → Eqv n (((turnS (k + 1) t).parts.map (spansS l.reverse k)).headD noF) (flipF n ((t.parts.map (spansS l k)).headD noF)) := fun q => by
      have hp1 := formed_one h q
      rw [hparts h3, ← head_flip (by rw [List.length_map]; exact hp1)]
      exact head_eqv (by simp [hp1]) (by simp [hp1]) (heach 0 (by simp [hp1]) (by simp [hp1]))
    by_cases h6 : t.kind = 6
    · rw [spans_6 (by rw [hk, hlow (by omega)]; exact h6) hnr, spans_6 h6 hn]
      exact (other_congr (hone (by omega))).trans (other_flip n _).symm
    by_cases h7 : t.kind = 7
    · rw [spans_7 (by rw [hk, hlow (by omega)]; exact h7) hnr, spans_7 h7 hn, hlo, hhi]
      exact (times_congr (hone (by omega)) _ _).trans (times_flip n _ _ _).symm
    by_cases h8 : t.kind = 8
    · rw [spans_9 (by rw [hk, h8]; rfl) hnr, spans_8 h8 hn, hneg]
      exact (look_congr (hone (by omega)) _ _).trans (look_flip n _ false _).symm
    by_cases h9 : t.kind = 9
    · rw [spans_8 (by rw [hk, h9]; rfl) hnr, spans_9 h9 hn, hneg]
      exact (look_congr (hone (by omega)) _ _).trans (look_flip n _ true _).symm
    by_cases h10 : t.kind = 10
    · rw [spans_11 (by rw [hk, h10]; rfl) hnr, spans_10 h10 hn]; exact end_flip l n hn
    · have h11 : t.kind = 11 := by omega
      rw [spans_10 (by rw [hk, h11]; rfl) hnr, spans_11 h11 hn]; exact begin_flip l n hn

end Go.Proofs.Ytoicbahkoejhjaa
