/- Texts within texts; a name in braces is a word. -/
import Derived.Test.YtjfdejcgkblleaaWordOk
import Derived.Test.YtjfdejcgkblleaaMb
namespace Go.Proofs.Ytjfdejcgkblleaa
open Go.RowKit
set_option linter.unusedSimpArgs false
set_option linter.unusedVariables false

theorem app_size (a b : ByteArray) : (a ++ b).size = a.size + b.size := ByteArray.size_append
theorem bt_app (a b : ByteArray) (i : Nat) : bt (a ++ b) i = if i < a.size then bt a i else bt b (i - a.size) := by
  rw [bt_get, bt_get, bt_get]
  have e : (a ++ b).data.toList = a.data.toList ++ b.data.toList := by rw [ByteArray.data_append, Array.toList_append]
  have ha : a.data.toList.length = a.size := by rw [Array.length_toList]; rfl
  rw [e]
  split
  · rw [List.getElem?_append_left (by omega)]
  · rw [List.getElem?_append_right (by omega), ha]
theorem ext_bt {a b : ByteArray} (hs : a.size = b.size) (h : ∀ i, i < a.size → bt a i = bt b i) : a = b := by
  apply ByteArray.ext
  apply Array.ext
  · exact hs
  · intro i h1 h2
    have h1' : i < a.size := h1
    have h2' : i < b.size := h2
    have := h i h1'
    rw [← bt_is h1', ← bt_is h2'] at this
    exact UInt8.toNat_inj.1 this
/-- A text stands in another one at a place. -/
def Holds (X : ByteArray) (p : Nat) (u : ByteArray) : Prop := p + u.size ≤ X.size ∧ ∀ i, i < u.size → bt X (p + i) = bt u i
theorem Holds.app {X u v : ByteArray} {p : Nat} : Holds X p (u ++ v) ↔ Holds X p u ∧ Holds X (p + u.size) v := by
  unfold Holds
  rw [app_size]
  constructor
  · rintro ⟨h1, h2⟩
    refine ⟨⟨by omega, fun i hi => ?_⟩, ⟨by omega, fun i hi => ?_⟩⟩
    · rw [h2 i (by omega), bt_app, if_pos hi]
    · have := h2 (u.size + i) (by omega)
      rw [bt_app, if_neg (by omega), show u.size + i - u.size = i by omega] at this
      rw [← this]; congr 1; omega
  · rintro ⟨⟨h1, h2⟩, ⟨h3, h4⟩⟩
    refine ⟨by omega, fun i hi => ?_⟩
    rw [bt_app]
    split
    · exact h2 i (by assumption)
    · have := h4 (i - u.size) (by omega)
      rw [show p + u.size + (i - u.size) = p + i by omega] at this
      exact this
theorem Holds.self (X : ByteArray) : Holds X 0 X := ⟨by omega, fun i _ => by rw [Nat.zero_add]⟩
theorem Holds.one {X : ByteArray} {p : Nat} {c : UInt8} (h : Holds X p ⟨#[c]⟩) : p < X.size ∧ bt X p = c.toNat := by
  obtain ⟨h1, h2⟩ := h
  have hs : (ByteArray.mk #[c]).size = 1 := rfl
  rw [hs] at h1 h2
  exact ⟨by omega, by have := h2 0 (by omega); rw [Nat.add_zero] at this; rw [this]; rfl⟩
theorem Holds.sub {X u : ByteArray} {p : Nat} (h : Holds X p u) : X.extract p (p + u.size) = u := by
  have hs : (X.extract p (p + u.size)).size = u.size := by rw [ByteArray.size_extract]; have := h.1; omega
  refine ext_bt hs fun i hi => ?_
  rw [hs] at hi
  rw [bt_sub X p (p + u.size) i h.1 (by omega)]
  exact h.2 i hi
theorem find_at {t : ByteArray} {c : Nat} : ∀ (f i j : Nat), i ≤ j → j < t.size → bt t j = c → (∀ k, i ≤ k → k < j → bt t k ≠ c) → j < i + f → findS t c f i = j
  | 0, i, j, _, _, _, _, h => absurd h (by omega)
  | f + 1, i, j, h1, h2, h3, h4, h5 => by
    by_cases e : i = j
    · subst e; exact find_here (Or.inr h3)
    · rw [find_next (by intro q; rcases q with q | q; omega; exact h4 i (Nat.le_refl _) (by omega) q)]
      exact find_at f (i + 1) j (by omega) h2 h3 (fun k a b => h4 k (by omega) b) (by omega)
theorem named_size {u : ByteArray} (h : namedS u = true) : 1 ≤ u.size ∧ u.size ≤ 20 ∧ alphaS (bt u 0) = true ∧ ∀ i, i < u.size → inName (bt u i) = true := by
  unfold namedS at h
  rw [Bool.and_eq_true, Bool.and_eq_true] at h
  have h1 := of_decide_eq_true h.1
  refine ⟨h1.1, h1.2, h.2.1, fun i hi => ?_⟩
  have := h.2.2
  unfold nameTo at this
  rw [List.all_eq_true] at this
  exact this i (List.mem_range.2 hi)
theorem named_of {u : ByteArray} (h1 : 1 ≤ u.size) (h2 : u.size ≤ 20) (h3 : alphaS (bt u 0) = true) (h4 : ∀ i, i < u.size → inName (bt u i) = true) : namedS u = true := by
  unfold namedS nameTo
  rw [Bool.and_eq_true, Bool.and_eq_true, List.all_eq_true]
  exact ⟨decide_eq_true ⟨h1, h2⟩, h3, fun i hi => h4 i (List.mem_range.1 hi)⟩
theorem name_word {X u : ByteArray} {p : Nat} (h0 : bt X p = 123) (hu : Holds X (p + 1) u) (he : bt X (p + 1 + u.size) = 125) (hl : p + 1 + u.size < X.size) (hn : namedS u = true) : wordS X p = (⟨11, emptyC, u, 0, 0⟩, ((u.size + 2 : Nat) : Int)) := by
  have hf : findS X 125 (X.size + 1) (p + 1) = p + 1 + u.size := by
    refine find_at _ _ _ (by omega) hl he (fun k a b => ?_) (by omega)
    have := hu.2 (k - (p + 1)) (by omega)
    rw [show p + 1 + (k - (p + 1)) = k by omega] at this
    rw [this]
    intro e
    have h := (named_size hn).2.2.2 (k - (p + 1)) (by omega)
    rw [e] at h
    exact absurd h (by decide)
  unfold wordS
  rw [if_neg (by omega), if_neg (by omega), if_pos h0]
  unfold bracesS
  rw [hf, braces_name (by omega) hu.sub hn]
  congr 1
  omega
theorem blank_no {b : Nat} (h : b ≠ 32 ∧ b ≠ 10 ∧ b ≠ 9 ∧ b ≠ 13) : blankS b = false := by
  unfold blankS
  simp; omega
end Go.Proofs.Ytjfdejcgkblleaa
