/- Whether a node matches nothing, kind by kind; some number of times, as Build puts it. Mathematics; no program is named. -/
import Derived.Test.YtcghclikkeajfaaNormTable
import Derived.Test.YtcghclikkeajfaaMe
namespace Go.Proofs.Ytcghclikkeajfaa
open Go.RowKit
set_option linter.unusedSimpArgs false
set_option linter.unusedVariables false

theorem null_in {ns : List Nd} {bits : Nat} {x : Int} (hx : isIn ns x) : nullS ns bits x = nodeT [] [bits] ns x 0 0 := by
  unfold nullS
  rw [decide_eq_true (show 0 ≤ x ∧ x < (ns.length : Int) from hx), Bool.true_and]
theorem null_out {ns : List Nd} {bits : Nat} {x : Int} (hx : ¬ isIn ns x) : nullS ns bits x = false := by
  unfold nullS
  rw [decide_eq_false (show ¬ (0 ≤ x ∧ x < (ns.length : Int)) from hx), Bool.false_and]
section
variable {ns : List Nd} (hf : FineN ns) (bits : Nat) {x : Int} (hx : isIn ns x)
include hf hx
theorem null_0 (k : kd ns x = 0) : nullS ns bits x = false := by rw [null_in hx, T_no hf hx k]; rfl
theorem null_1 (k : kd ns x = 1) : nullS ns bits x = true := by rw [null_in hx, T_em hf hx k]; rfl
theorem null_2 (k : kd ns x = 2) : nullS ns bits x = false := by rw [null_in hx, T_bytes hf hx k]; rfl
theorem null_3 (k : kd ns x = 3) : nullS ns bits x = (nullS ns bits (ka ns x) && nullS ns bits (kb ns x)) := by
  obtain ⟨⟨a0, _⟩, b0, _⟩ := in_two hf hx (Or.inl k)
  rw [null_in hx, null_in a0, null_in b0, T_cat hf hx k]
  refine bool_iff ?_
  rw [then_iff, Bool.and_eq_true]
  constructor
  · rintro ⟨m, m0, _, _, h1, h2⟩
    have m0 : m < 1 := m0
    obtain rfl : m = 0 := by omega
    exact ⟨h1, h2⟩
  · rintro ⟨h1, h2⟩
    exact ⟨0, Nat.zero_lt_succ _, Nat.le_refl _, Nat.le_refl _, h1, h2⟩
theorem null_4 (k : kd ns x = 4) : nullS ns bits x = (nullS ns bits (ka ns x) || nullS ns bits (kb ns x)) := by
  obtain ⟨⟨a0, _⟩, b0, _⟩ := in_two hf hx (by omega)
  rw [null_in hx, null_in a0, null_in b0, T_or hf hx k]
theorem null_5 (k : kd ns x = 5) : nullS ns bits x = (nullS ns bits (ka ns x) && nullS ns bits (kb ns x)) := by
  obtain ⟨⟨a0, _⟩, b0, _⟩ := in_two hf hx (by omega)
  rw [null_in hx, null_in a0, null_in b0, T_and hf hx k]
theorem null_6 (k : kd ns x = 6) : nullS ns bits x = !nullS ns bits (ka ns x) := by
  rw [null_in hx, null_in (in_one hf hx (Or.inl k)).1, T_not hf hx k]
  unfold otherF
  rw [decide_eq_true (Nat.le_refl 0), Bool.true_and]
theorem null_7 (k : kd ns x = 7) : nullS ns bits x = true := by
  rw [null_in hx, T_star hf hx k]
  exact any_self _ _ _ _
theorem null_8 (k : kd ns x = 8) : nullS ns bits x = (decide (bits >>> (ka ns x).toNat % 2 = 1) != (ndAt ns x.toNat).neg) := by
  rw [null_in hx, T_look hf hx k]
  unfold bitF
  rw [decide_eq_true rfl, Bool.true_and]
  rfl
end
/- Times: Lo times Cat of x; then Star of x, or as often Or of Empty and Cat of x and what comes then. -/
def ledF (f : Tbl) (n : Nat) : Nat → Tbl → Tbl
  | 0, g => g
  | m + 1, g => thenF f (ledF f n m g) n
def mayF (f : Tbl) (n : Nat) : Nat → Tbl
  | 0 => eqF
  | m + 1 => fun i j => eqF i j || thenF f (mayF f n m) n i j
theorem led_congr {f : Tbl} {n : Nat} : ∀ (m : Nat) {g g' : Tbl}, Eqv n g g' → Eqv n (ledF f n m g) (ledF f n m g')
  | 0, _, _, h => h
  | m + 1, _, _, h => then_congr (Eqv.refl _ _) (led_congr m h)
theorem led_in (f : Tbl) (n : Nat) : ∀ (m : Nat) (g : Tbl), Eqv n (ledF f n m (thenF f g n)) (thenF f (ledF f n m g) n)
  | 0, _ => Eqv.refl _ _
  | m + 1, g => then_congr (Eqv.refl _ _) (led_in f n m g)
theorem pow_led (f : Tbl) (n : Nat) : ∀ (m : Nat) (g : Tbl), (∀ i j, g i j = true → i ≤ j) → Eqv n (thenF (powF f n m) g n) (ledF f n m g)
  | 0, g, hg => eq_then hg
  | m + 1, g, hg => by
    show Eqv n (thenF (thenF (powF f n m) f n) g n) (thenF f (ledF f n m g) n)
    exact ((then_assoc n _ _ _).trans (pow_led f n m (thenF f g n) (fun i j h => then_slim h))).trans (led_in f n m g)
theorem mayF_slim (f : Tbl) (n : Nat) : ∀ (m i j : Nat), mayF f n m i j = true → i ≤ j
  | 0, i, j, h => by have := (eqF_iff _ _).1 h; omega
  | m + 1, i, j, h => by
    have h : (eqF i j || thenF f (mayF f n m) n i j) = true := h
    rw [Bool.or_eq_true] at h
    rcases h with h | h
    · have := (eqF_iff _ _).1 h; omega
    · exact then_slim h
/-- x at least l times, then as often as it may. -/
theorem times_star (f : Tbl) (n l : Nat) : Eqv n (ledF f n l (anyTo f n n)) (timesT f n l (-1)) := by
  show Eqv n _ (if (-1 : Int) < 0 then thenF (powF f n l) (anyTo f n n) n else _)
  rw [if_pos (by omega)]
  exact (pow_led f n l _ (fun i j h => any_le n h)).symm
theorem pow_slim (f : Tbl) (n : Nat) : ∀ (m i j : Nat), powF f n m i j = true → i ≤ j
  | 0, i, j, h => by have := (eqF_iff _ _).1 h; omega
  | m + 1, i, j, h => then_slim h
theorem pow_front (f : Tbl) (n : Nat) (m : Nat) : Eqv n (powF f n (m + 1)) (thenF f (powF f n m) n) := by
  have h1 : Eqv n (powF f n (m + 1)) (thenF (powF f n (m + 1)) eqF n) := ((eq_then_swap n _).symm.trans (eq_then (pow_slim f n (m + 1)))).symm
  have h2 : Eqv n (thenF (powF f n m) eqF n) (powF f n m) := (eq_then_swap n _).symm.trans (eq_then (pow_slim f n m))
  refine h1.trans ((pow_led f n (m + 1) eqF (fun i j h => by have := (eqF_iff _ _).1 h; omega)).trans ?_)
  exact then_congr (Eqv.refl _ _) ((pow_led f n m eqF (fun i j h => by have := (eqF_iff _ _).1 h; omega)).symm.trans h2)
theorem may_iff (f : Tbl) (n : Nat) : ∀ (m i j : Nat), i < n → j < n → (mayF f n m i j = true ↔ ∃ q, q ≤ m ∧ powF f n q i j = true)
  | 0, i, j, hi, hj => ⟨fun h => ⟨0, Nat.le_refl _, h⟩, fun ⟨q, hq, h⟩ => by
    have e : q = 0 := Nat.le_zero.1 hq
    rw [e] at h
    exact h⟩
  | m + 1, i, j, hi, hj => by
    show (eqF i j || thenF f (mayF f n m) n i j) = true ↔ _
    rw [Bool.or_eq_true, then_iff]
    constructor
    · rintro (h | ⟨c, c0, c1, c2, h1, h2⟩)
      · exact ⟨0, Nat.zero_le _, h⟩
      · obtain ⟨q, hq, h3⟩ := (may_iff f n m c j c0 hj).1 h2
        exact ⟨q + 1, by omega, by rw [pow_front f n q i j hi hj, then_iff]; exact ⟨c, c0, c1, c2, h1, h3⟩⟩
    · rintro ⟨q, hq, h⟩
      cases q with
      | zero => exact Or.inl h
      | succ q =>
        rw [pow_front f n q i j hi hj, then_iff] at h
        obtain ⟨c, c0, c1, c2, h1, h2⟩ := h
        exact Or.inr ⟨c, c0, c1, c2, h1, (may_iff f n m c j c0 hj).2 ⟨q, by omega, h2⟩⟩
theorem out_iff (f : Tbl) (n l : Nat) : ∀ (m i j : Nat), outF f n l m i j = true ↔ ∃ q, q ≤ m ∧ powF f n (l + q) i j = true
  | 0, i, j => ⟨fun h => ⟨0, Nat.le_refl _, h⟩, fun ⟨q, hq, h⟩ => by
    have e : q = 0 := Nat.le_zero.1 hq
    rw [e] at h
    exact h⟩
  | m + 1, i, j => by
    show (outF f n l m i j || powF f n (l + (m + 1)) i j) = true ↔ _
    rw [Bool.or_eq_true, out_iff f n l m i j]
    constructor
    · rintro (⟨q, hq, h⟩ | h)
      · exact ⟨q, by omega, h⟩
      · exact ⟨m + 1, Nat.le_refl _, h⟩
    · rintro ⟨q, hq, h⟩
      by_cases e : q = m + 1
      · subst e; exact Or.inr h
      · exact Or.inl ⟨q, by omega, h⟩
theorem pow_add (f : Tbl) (n l : Nat) : ∀ (q : Nat), Eqv n (thenF (powF f n l) (powF f n q) n) (powF f n (l + q))
  | 0 => (eq_then_swap n _).symm.trans (eq_then (pow_slim f n l))
  | q + 1 => by
    show Eqv n (thenF (powF f n l) (thenF (powF f n q) f n) n) (thenF (powF f n (l + q)) f n)
    exact (then_assoc n _ _ _).symm.trans (then_congr (pow_add f n l q) (Eqv.refl _ _))
/-- x from l to l + m times. -/
theorem times_out (f : Tbl) (n l m : Nat) : Eqv n (ledF f n l (mayF f n m)) (outF f n l m) := fun i j hi hj => bool_iff (by
  rw [← pow_led f n l (mayF f n m) (mayF_slim f n m) i j hi hj, then_iff, out_iff]
  constructor
  · rintro ⟨c, c0, c1, c2, h1, h2⟩
    obtain ⟨q, hq, h3⟩ := (may_iff f n m c j c0 hj).1 h2
    exact ⟨q, hq, by rw [← pow_add f n l q i j hi hj, then_iff]; exact ⟨c, c0, c1, c2, h1, h3⟩⟩
  · rintro ⟨q, hq, h⟩
    rw [← pow_add f n l q i j hi hj, then_iff] at h
    obtain ⟨c, c0, c1, c2, h1, h2⟩ := h
    exact ⟨c, c0, c1, c2, h1, (may_iff f n m c j c0 hj).2 ⟨q, hq, h2⟩⟩)

end Go.Proofs.Ytcghclikkeajfaa
