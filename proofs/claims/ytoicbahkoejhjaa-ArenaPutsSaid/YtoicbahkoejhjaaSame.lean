/- Two patterns alike, place by place. No program is named here. -/
import Derived.Test.YtoicbahkoejhjaaTr
namespace Go.Proofs.Ytoicbahkoejhjaa
open Go.RowKit

/-- Alike in what is their own. -/
def ownSame (a b : Tr) : Bool := (a.kind == b.kind) && ((a.set.eqb b.set) && ((a.lo == b.lo) && ((a.hi == b.hi) && ((a.neg == b.neg) && (a.parts.length == b.parts.length)))))
def sameS : Nat → Int → Tr → Tr → Bool
  | 0, _, _, _ => false
  | k + 1, m, a, b => decide (1 ≤ m) && (ownSame a b && (a.parts.zip b.parts).all (fun p => sameS k (m - 1) p.1 p.2))
theorem sameS_low {k : Nat} {m : Int} {a b : Tr} (h : m < 1) : sameS (k + 1) m a b = false := by
  show (decide (1 ≤ m) && _) = false; rw [decide_eq_false (by omega), Bool.false_and]
theorem sameS_own {k : Nat} {m : Int} {a b : Tr} (h : ownSame a b = false) : sameS (k + 1) m a b = false := by
  show (decide (1 ≤ m) && (ownSame a b && _)) = false; rw [h, Bool.false_and, Bool.and_false]
theorem zip_at {a b : Tr} {j : Nat} (h : j < a.parts.length) (e : a.parts.length = b.parts.length) : (a.parts.zip b.parts)[j]'(by simp; omega) = (a.parts[j], b.parts[j]'(by omega)) := by simp
theorem sameS_not {k : Nat} {m : Int} {a b : Tr} {j : Nat} (h : j < a.parts.length) (e : a.parts.length = b.parts.length) (hs : sameS k (m - 1) a.parts[j] (b.parts[j]'(by omega)) = false) : sameS (k + 1) m a b = false := by
  have : (a.parts.zip b.parts).all (fun p => sameS k (m - 1) p.1 p.2) = false := by
    rw [List.all_eq_false]
    refine ⟨(a.parts.zip b.parts)[j]'(by simp; omega), List.getElem_mem _, ?_⟩
    rw [zip_at h e, hs]
    simp
  show (decide (1 ≤ m) && (ownSame a b && _)) = false
  rw [this, Bool.and_false, Bool.and_false]
def sameTo (k : Nat) (m : Int) (a b : Tr) (j : Nat) : Bool := ((a.parts.zip b.parts).take j).all (fun p => sameS k m p.1 p.2)
theorem sameTo_zero (k : Nat) (m : Int) (a b : Tr) : sameTo k m a b 0 = true := rfl
theorem sameTo_succ {k : Nat} {m : Int} {a b : Tr} {j : Nat} (h : j < a.parts.length) (e : a.parts.length = b.parts.length) (hj : sameTo k m a b j = true) (hs : sameS k m a.parts[j] (b.parts[j]'(by omega)) = true) : sameTo k m a b (j + 1) = true := by
  unfold sameTo at hj ⊢
  rw [List.take_succ_eq_append_getElem (by simp; omega), List.all_append, hj, zip_at h e]
  simp [hs]
theorem sameS_yes {k : Nat} {m : Int} {a b : Tr} (h : ¬ m < 1) (ho : ownSame a b = true) (hs : sameTo k (m - 1) a b a.parts.length = true) (e : a.parts.length = b.parts.length) : sameS (k + 1) m a b = true := by
  show (decide (1 ≤ m) && (ownSame a b && _)) = true
  unfold sameTo at hs
  rw [List.take_of_length_le (by simp; omega)] at hs
  rw [decide_eq_true (by omega), ho, hs]; rfl
theorem own_yes {a b : Tr} (h1 : a.kind = b.kind) (h2 : a.set.eqb b.set = true) (h3 : a.lo = b.lo) (h4 : a.hi = b.hi) (h5 : a.neg = b.neg) (h6 : a.parts.length = b.parts.length) : ownSame a b = true := by
  unfold ownSame; simp [h1, h2, h3, h4, h5, h6]
theorem own_kind {a b : Tr} (h : ¬ a.kind = b.kind) : ownSame a b = false := by unfold ownSame; simp [h]
theorem own_set {a b : Tr} (h : a.set.eqb b.set = false) : ownSame a b = false := by unfold ownSame; simp [h]
theorem own_lo {a b : Tr} (h : ¬ a.lo = b.lo) : ownSame a b = false := by unfold ownSame; simp [h]
theorem own_hi {a b : Tr} (h : ¬ a.hi = b.hi) : ownSame a b = false := by unfold ownSame; simp [h]
theorem own_neg {a b : Tr} (h : ¬ a.neg = b.neg) : ownSame a b = false := by unfold ownSame; simp [h]
theorem own_len {a b : Tr} (h : ¬ a.parts.length = b.parts.length) : ownSame a b = false := by unfold ownSame; simp [h]
theorem int_eq {x y : Int} (h : x = y) : (x == y) = true ∧ (x != y) = false := ⟨by rw [beq_iff_eq]; exact h, by subst h; simp⟩
theorem int_ne {x y : Int} (h : ¬ x = y) : (x == y) = false ∧ (x != y) = true := ⟨by rw [beq_eq_false_iff_ne]; exact h, by rw [bne_iff_ne]; exact h⟩
theorem bool_eq {x y : Bool} (h : x = y) : (x == y) = true ∧ (x != y) = false := by subst h; cases x <;> exact ⟨rfl, rfl⟩
theorem bool_ne {x y : Bool} (h : ¬ x = y) : (x == y) = false ∧ (x != y) = true := by cases x <;> cases y <;> simp_all

theorem tr5 {w : World} {g n : Nat} {t : TypeId} {r : Tr} {A : Option Addr} (h : At w g t r.cs.toArray) (ha : r.addr = A) (hn : r.n = n) : w.cell? ⟨g, 5, none⟩ = some (.slice A n r.cap) := by
  rw [← ha, ← hn]; exact (At.tr_cell h).2.1
theorem tr_range_step {w w0 w' : World} {b o : Nat} {r : Tr} (h : w.rangeAt b o r.cs) (hb : Below w0.heap.size w0 w') (e : w0.heap = w.heap) : w'.rangeAt b o r.cs := by
  have h0 := h 0 _ rfl
  have hlt : b < w.heap.size := block_lt_of_cell h0
  have h1 : w0.rangeAt b o r.cs := fun j v hv => by have := h j v hv; unfold World.cell? at this ⊢; rw [e]; exact this
  exact range_below h1 (by rw [e]; exact hlt) (Nat.le_refl _) hb
theorem At.tr_set {w : World} {g : Nat} {t : TypeId} {r : Tr} (h : At w g t r.cs.toArray) :
    w.cell? ⟨g, 1, none⟩ = some (.int .u64 r.set.w0) ∧ w.cell? ⟨g, 2, none⟩ = some (.int .u64 r.set.w1) ∧ w.cell? ⟨g, 3, none⟩ = some (.int .u64 r.set.w2) ∧ w.cell? ⟨g, 4, none⟩ = some (.int .u64 r.set.w3) :=
  ⟨At.cell h 1, At.cell h 2, At.cell h 3, At.cell h 4⟩

end Go.Proofs.Ytoicbahkoejhjaa
