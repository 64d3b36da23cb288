/- Plain facts on the members of a class: which bytes they are, as a set and as a list; the least of them. No program is named here. -/
import Derived.Test.YthmppooefajpgaaDoorWords
import Derived.Test.YthmppooefajpgaaDoorLists
import Derived.Test.YthmppooefajpgaaDoorLeast
import Derived.Test.YthmppooefajpgaaDoorSetOf
import Derived.Test.YthmppooefajpgaaDoorOwn
import Derived.Test.YthmppooefajpgaaDoorCl
namespace Go.Proofs.YthmppooefajpgaaDoor
open Go.RowKit

def Cl.mem (c : Cl) (z : Int) (b : Nat) : Bool := decide (0 ≤ z) && (decide (z < c.n) && ((c.cl b : Int) == z))
def memList (c : Cl) (z : Int) (k : Nat) : List Nat := (List.range k).filter (fun b => (c.cl b : Int) == z)
def Cl.members (c : Cl) (z : Int) : St := if 0 ≤ z ∧ z < c.n then (memList c z 256).foldl St.put St.zero else St.zero
theorem memList_yes {c : Cl} {z : Int} {k : Nat} (h : (c.cl k : Int) = z) : memList c z (k + 1) = memList c z k ++ [k] := by
  unfold memList; rw [List.range_succ, List.filter_append]; simp [h]
theorem memList_no {c : Cl} {z : Int} {k : Nat} (h : ¬ (c.cl k : Int) = z) : memList c z (k + 1) = memList c z k := by
  unfold memList; rw [List.range_succ, List.filter_append]; simp [h]
theorem memList_le (c : Cl) (z : Int) (k : Nat) : (memList c z k).length ≤ k := by
  have := List.length_filter_le (fun b => (c.cl b : Int) == z) (List.range k)
  simpa [memList] using this
theorem memList_lt (c : Cl) (z : Int) (n : Nat) : ∀ (k : Nat) (h : k < (memList c z n).length), (memList c z n)[k] < n := by
  intro k h
  have hm := List.getElem_mem h
  unfold memList at hm
  rw [List.mem_filter] at hm
  exact List.mem_range.1 hm.1
theorem fold_has (l : List Nat) (b : Nat) (hb : b < 256) : ∀ s : St, (∀ x ∈ l, x < 256) → (l.foldl St.put s).has b = (s.has b || decide (b ∈ l)) := by
  induction l with
  | nil => intro s _; simp
  | cons x r ih =>
    intro s h
    rw [List.foldl_cons, ih _ (fun y hy => h y (List.mem_cons_of_mem _ hy)), has_put s x b (h x (by simp)) hb]
    by_cases e : b = x
    · subst e; simp
    · simp [e]
theorem zero_has (b : Nat) : St.zero.has b = false := by
  unfold St.has St.word St.zero; (repeat' split) <;> simp
theorem members_ok (c : Cl) (z : Int) : (c.members z).Ok := by
  unfold Cl.members; split
  · exact fold_ok _ _ St.zero_ok
  · exact St.zero_ok
theorem members_has (c : Cl) (z : Int) (b : Nat) (hb : b < 256) : (c.members z).has b = c.mem z b := by
  unfold Cl.members Cl.mem
  split
  · rename_i h
    rw [fold_has _ _ hb _ (by intro x hx; unfold memList at hx; rw [List.mem_filter] at hx; simpa using hx.1), zero_has]
    unfold memList
    rw [Bool.eq_iff_iff]
    simp [h.1, h.2, hb]
  · rename_i h
    rw [zero_has]
    by_cases h1 : 0 ≤ z
    · have h2 : ¬ z < c.n := fun h2 => h ⟨h1, h2⟩
      simp [h2]
    · simp [h1]
theorem members_in {c : Cl} {z : Int} (h1 : 0 ≤ z) (h2 : z < c.n) : c.members z = (memList c z 256).foldl St.put St.zero := by unfold Cl.members; rw [if_pos ⟨h1, h2⟩]
theorem members_low {c : Cl} {z : Int} (h1 : z < 0) : c.members z = St.zero := by unfold Cl.members; rw [if_neg (by omega)]
theorem members_high {c : Cl} {z : Int} (h1 : c.n ≤ z) : c.members z = St.zero := by unfold Cl.members; rw [if_neg (by omega)]

/-- The first of the bytes below k of which p is true; -1, if it is true of none. -/
def firstTo (p : Nat → Bool) : Nat → Int
  | 0 => -1
  | k + 1 => if p k = true ∧ firstTo p k < 0 then (k : Int) else firstTo p k
def headOr (l : List Nat) : Int := match l with | [] => -1 | b :: _ => (b : Int)
theorem firstTo_is (p : Nat → Bool) : ∀ k, firstTo p k = headOr ((List.range k).filter p)
  | 0 => rfl
  | k + 1 => by
    have ih := firstTo_is p k
    show (if p k = true ∧ firstTo p k < 0 then (k : Int) else firstTo p k) = _
    rw [ih, List.range_succ, List.filter_append]
    cases hq : (List.range k).filter p with
    | nil =>
      by_cases hp : p k = true
      · rw [if_pos ⟨hp, by simp [headOr]⟩]; simp [hp, headOr]
      · rw [if_neg (fun h => hp h.1)]; simp [hp, headOr]
    | cons b r =>
      rw [if_neg (fun h => by have := h.2; simp [headOr] at this; omega)]
      simp [headOr]
theorem firstTo_ge (p : Nat → Bool) (k : Nat) : -1 ≤ firstTo p k := by
  rw [firstTo_is]; unfold headOr; split <;> omega
theorem firstTo_lt (p : Nat → Bool) (k : Nat) : firstTo p k < k ∨ firstTo p k = -1 := by
  rw [firstTo_is]
  cases hq : (List.range k).filter p with
  | nil => right; rfl
  | cons b r =>
    left
    have : b ∈ (List.range k).filter p := by rw [hq]; simp
    rw [List.mem_filter] at this
    have hb : b < k := by simpa using this.1
    show ((b : Nat) : Int) < k
    omega
theorem firstTo_congr {p q : Nat → Bool} : ∀ k, (∀ b, b < k → p b = q b) → firstTo p k = firstTo q k
  | 0, _ => rfl
  | k + 1, h => by
    have ih := firstTo_congr k (fun b hb => h b (by omega))
    show (if p k = true ∧ firstTo p k < 0 then (k : Int) else firstTo p k) = (if q k = true ∧ firstTo q k < 0 then (k : Int) else firstTo q k)
    rw [ih, h k (by omega)]
theorem firstTo_new {p : Nat → Bool} {k : Nat} (h : p k = true) (hf : firstTo p k < 0) : firstTo p (k + 1) = (k : Int) := by
  show (if _ then _ else _) = _; rw [if_pos ⟨h, hf⟩]
theorem firstTo_old {p : Nat → Bool} {k : Nat} (hf : ¬ firstTo p k < 0) : firstTo p (k + 1) = firstTo p k := by
  show (if _ then _ else _) = _; rw [if_neg (fun h => hf h.2)]
theorem firstTo_not {p : Nat → Bool} {k : Nat} (h : p k = false) : firstTo p (k + 1) = firstTo p k := by
  show (if _ then _ else _) = _; rw [if_neg (fun h' => by rw [h] at h'; cases h'.1)]
theorem least_first (s : St) : (((leastOf s.list).1 : Nat) : Int) = (if firstTo s.has 256 < 0 then 0 else firstTo s.has 256) := by
  have h : firstTo s.has 256 = headOr s.list := firstTo_is s.has 256
  rw [h]
  cases s.list with
  | nil => simp [leastOf, headOr]
  | cons b r =>
    rw [if_neg (by show ¬ ((b : Nat) : Int) < 0; omega)]
    rfl
theorem least_lt (s : St) : (leastOf s.list).1 < 256 := by
  cases hq : s.list with
  | nil => simp [leastOf]
  | cons b r =>
    have : b ∈ s.list := by rw [hq]; simp
    unfold St.list at this
    rw [List.mem_filter] at this
    have hb : b < 256 := by simpa using this.1
    simpa [leastOf] using hb
theorem IntRow.bytes {w : World} {base : Nat} {e : TypeId} {v : Value} {l : List Nat} (h : IntRow w base e .u8 v l) (hl : ∀ (k : Nat) (h : k < l.length), l[k] < 256) : ∃ A cap, v = .slice A l.length cap ∧ IsBytes w A l.length l := by
  by_cases h0 : 0 < l.length
  · obtain ⟨g, cap, rfl, _, hg, _, _⟩ := h.form h0
    refine ⟨some ⟨g, 0, none⟩, cap, rfl, rfl, by have := h.max; unfold maxLen at this; omega, hl, fun _ => ⟨g, 0, rfl, hg, fun k hk => ?_⟩⟩
    rw [Nat.zero_add]
    exact h.at k hk
  · obtain ⟨A, cap, rfl⟩ := h.len
    exact ⟨A, cap, rfl, rfl, by omega, hl, fun hn => absurd hn h0⟩

end Go.Proofs.YthmppooefajpgaaDoor
