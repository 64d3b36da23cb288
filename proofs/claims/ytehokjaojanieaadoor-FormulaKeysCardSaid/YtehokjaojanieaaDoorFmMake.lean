/- bolterref09.Make: the formed formula of a table of ways. -/
import Derived.Test.YtehokjaojanieaaDoorFmLess
import Derived.Test.YtehokjaojanieaaDoorFmChosen
import Derived.Test.YtehokjaojanieaaDoorVals
namespace Go.Proofs.YtehokjaojanieaaDoor
open Go.RowKit
set_option linter.unusedVariables false
set_option linter.unusedSimpArgs false

/-- The values us stand for the parts f. -/
def FmVals (w : World) (us : List Value) (f : Fm) : Prop := us.length = f.length ∧ (∀ u ∈ us, u.oneCell' = true) ∧ ∀ j (h : j < us.length), IntsAt w us[j] (paAt f j)
theorem FmVals.next {w w' : World} {us : List Value} {f : Fm} (h : FmVals w us f) (hb : Below w.heap.size w w') : FmVals w' us f := ⟨h.1, h.2.1, fun j hj => (h.2.2 j hj).next hb⟩
theorem FmVals.drewN {w : World} {us : List Value} {f : Fm} (h : FmVals w us f) (q : Nat) : FmVals (w.drewN q) us f := h
theorem vals_fm {w : World} {v : Value} {us : List Value} {f : Fm} (h : ValsAt w v us) (h' : FmVals w us f) : FmAt w v f := by
  obtain ⟨A, c, rfl, h2, h3, h4⟩ := h
  refine ⟨A, c, by rw [h'.1], by rw [← h'.1]; exact h3.1, h3.2, fun h0 => ?_⟩
  obtain ⟨b, off, e, hlt, hr⟩ := h4 (by rw [h'.1]; exact h0)
  exact ⟨b, off, e, hlt, fun j hj => ⟨_, hr j (by rw [h'.1]; exact hj), h'.2.2 j (by rw [h'.1]; exact hj)⟩⟩
theorem FmVals.ins {w : World} {us : List Value} {f : Fm} {u : Value} {p : List Int} (h : FmVals w us f) (hu : u.oneCell' = true) (hp : IntsAt w u p) (k : Nat) (hk : k ≤ us.length) : FmVals w (us.take k ++ [u] ++ us.drop k) (f.take k ++ p :: f.drop k) := by
  have hl := h.1
  refine ⟨by simp; omega, fun x hx => ?_, fun j hj => ?_⟩
  · rw [List.append_assoc, List.mem_append] at hx
    rcases hx with hx | hx
    · exact h.2.1 x (List.mem_of_mem_take hx)
    · rcases List.mem_append.1 hx with hx | hx
      · rw [List.mem_singleton.1 hx]; exact hu
      · exact h.2.1 x (List.mem_of_mem_drop hx)
  · have hj' : j < us.length + 1 := by simp at hj; omega
    rcases Nat.lt_trichotomy j k with c | c | c
    · have e1 : (us.take k ++ [u] ++ us.drop k)[j] = us[j]'(by omega) := by
        rw [List.getElem_append_left (by simp; omega), List.getElem_append_left (by simp; omega), List.getElem_take]
      have e2 : paAt (f.take k ++ p :: f.drop k) j = paAt f j := by
        unfold paAt
        rw [List.getElem?_append_left (by simp; omega), List.getElem?_take_of_lt c]
      rw [e1, e2]
      exact h.2.2 j (by omega)
    · subst c
      have e1 : (us.take j ++ [u] ++ us.drop j)[j] = u := by
        rw [List.getElem_append_left (by simp; omega), List.getElem_append_right (by simp; omega)]
        simp
      have e2 : paAt (f.take j ++ p :: f.drop j) j = p := by
        unfold paAt
        rw [List.getElem?_append_right (by simp; omega)]
        simp [Nat.min_eq_left (show j ≤ f.length by omega)]
      rw [e1, e2]
      exact hp
    · have e1 : (us.take k ++ [u] ++ us.drop k)[j] = us[j - 1]'(by omega) := by
        rw [List.getElem_append_right (by simp; omega), List.getElem_drop]
        congr 1
        simp; omega
      have e2 : paAt (f.take k ++ p :: f.drop k) j = paAt f (j - 1) := by
        unfold paAt
        rw [List.getElem?_append_right (by simp; omega), List.length_take, Nat.min_eq_left (by omega), show j - k = (j - k - 1) + 1 by omega, List.getElem?_cons_succ, List.getElem?_drop, show k + (j - k - 1) = j - 1 by omega]
      rw [e1, e2]
      exact h.2.2 (j - 1) (by omega)
def leastTo (hf : Nat → Bool) (bits k : Nat) : Bool := hf bits && (List.range k).all (fun i => !(bits.testBit i && hf (bits ^^^ 2 ^ i)))
def insS (f : Fm) (p : List Int) : Fm := f.takeWhile (fun q => lessS q p) ++ p :: f.dropWhile (fun q => lessS q p)
def makeTo (l : List Int) (hf : Nat → Bool) : Nat → Fm
  | 0 => []
  | j + 1 => if leastTo hf j l.length then insS (makeTo l hf j) (chosenS l j) else makeTo l hf j
theorem tw_take (f : Fm) (g : List Int → Bool) : f.takeWhile g = f.take (f.takeWhile g).length ∧ f.dropWhile g = f.drop (f.takeWhile g).length := by
  induction f with
  | nil => exact ⟨rfl, rfl⟩
  | cons x f ih =>
    cases hg : g x
    · simp [List.takeWhile_cons, List.dropWhile_cons, hg]
    · simp only [List.takeWhile_cons, List.dropWhile_cons, hg, if_true, List.length_cons, List.take_succ_cons, List.drop_succ_cons]
      exact ⟨by rw [← ih.1], ih.2⟩
theorem tw_yes {f : Fm} {g : List Int → Bool} {k : Nat} (h : k < (f.takeWhile g).length) : g (paAt f k) = true := by
  have e := (tw_take f g).1
  have hl : (f.takeWhile g).length ≤ f.length := (List.takeWhile_sublist _).length_le
  have hm : paAt f k ∈ f.takeWhile g := by
    rw [e, paAt_lt (by omega), ← List.getElem_take (j := (f.takeWhile g).length) (h := by rw [List.length_take]; omega)]
    exact List.getElem_mem _
  have : ∀ (f : Fm) (x : List Int), x ∈ f.takeWhile g → g x = true := by
    intro f
    induction f with
    | nil => intro x hx; cases hx
    | cons y f ih =>
      intro x hx
      cases hg : g y
      · rw [List.takeWhile_cons, hg] at hx; cases hx
      · rw [List.takeWhile_cons, hg] at hx
        rcases List.mem_cons.1 hx with rfl | hx
        · exact hg
        · exact ih x hx
  exact this f _ hm
theorem tw_no {f : Fm} {g : List Int → Bool} (h : (f.takeWhile g).length < f.length) : g (paAt f (f.takeWhile g).length) = false := by
  have : ∀ (f : Fm), (f.takeWhile g).length < f.length → g (paAt f (f.takeWhile g).length) = false := by
    intro f
    induction f with
    | nil => intro h; simp at h
    | cons y f ih =>
      intro h
      cases hg : g y
      · simp only [List.takeWhile_cons, hg]; exact hg
      · simp only [List.takeWhile_cons, hg, if_true, List.length_cons] at h ⊢
        exact ih (by omega)
  exact this f h
theorem tw_le (f : Fm) (g : List Int → Bool) : (f.takeWhile g).length ≤ f.length := (List.takeWhile_sublist _).length_le
theorem make_le (l : List Int) (hf : Nat → Bool) : ∀ j, (makeTo l hf j).length ≤ j
  | 0 => Nat.le_refl _
  | j + 1 => by
    have h := make_le l hf j
    show (if _ then _ else _ : Fm).length ≤ _
    split
    · unfold insS
      have h1 := (tw_take (makeTo l hf j) (fun q => lessS q (chosenS l j))).2
      have h2 := tw_le (makeTo l hf j) (fun q => lessS q (chosenS l j))
      rw [List.length_append, List.length_cons, h1, List.length_drop]
      omega
    · omega
theorem xor_i64 (a b : Nat) (ha : a < 1073741824) (hb : b < 1073741824) : Go.bits .xor .i64 (a : Int) (b : Int) = ((a ^^^ b : Nat) : Int) := by
  have hx : a ^^^ b < 2 ^ 30 := Nat.xor_lt_two_pow ha hb
  show IntKind.i64.wrap ((BitVec.ofInt 64 (a : Int) ^^^ BitVec.ofInt 64 (b : Int)).toNat : Int) = _
  rw [BitVec.toNat_xor, show (BitVec.ofInt 64 (a : Int)).toNat = a by simp [BitVec.toNat_ofInt]; omega, show (BitVec.ofInt 64 (b : Int)).toNat = b by simp [BitVec.toNat_ofInt]; omega, IntKind.wrap_i64]
  omega
theorem pow_i64 (k : Nat) (h : k < 30) : wrap64 (2 ^ k) = ((2 ^ k : Nat) : Int) := by
  have h1 : (2 : Nat) ^ k ≤ 2 ^ 30 := Nat.pow_le_pow_right (by omega) (by omega)
  have h2 : (2 : Int) ^ k = ((2 ^ k : Nat) : Int) := by push_cast; rfl
  rw [h2]
  generalize (2 : Nat) ^ k = z at h1 ⊢
  unfold wrap64
  omega
/-- The ways of a table: bools in a row. -/
def WaysAt (w : World) (g N : Nat) (hf : Nat → Bool) : Prop := g < w.heap.size ∧ ∀ j, j < N → w.cell? ⟨g, j, none⟩ = some (.bool (hf j))
theorem WaysAt.next {w w' : World} {g N : Nat} {hf : Nat → Bool} (h : WaysAt w g N hf) (hb : Below w.heap.size w w') : WaysAt w' g N hf := ⟨Nat.lt_of_lt_of_le h.1 hb.size, fun j hj => ((bcell hb).1 g _ h.1).trans (h.2 j hj)⟩

end Go.Proofs.YtehokjaojanieaaDoor
