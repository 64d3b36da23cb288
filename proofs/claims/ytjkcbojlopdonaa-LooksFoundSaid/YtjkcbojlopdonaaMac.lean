/- Joined: TrSize, Strip. -/
import Derived.Test.YtjkcbojlopdonaaTr
import Derived.Test.YtjkcbojlopdonaaMab
/- How great a pattern is: by its parts, at most 1001. No program is named here. -/
namespace Go.Proofs.Ytjkcbojlopdonaa
open Go.RowKit

def cut1001 (x : Int) : Int := if 1001 < x then 1001 else x
def sumS (l : List Int) : Int := l.foldl (fun n x => cut1001 (n + x)) 0
def cut2000 (x : Int) : Int := if 2000 < x then 2000 else x
/-- How many times a Times counts. -/
def timesLo (lo : Int) : Int := if 1 < lo then cut2000 lo else 1
def timesS (lo hi : Int) : Int := if timesLo lo < hi then cut2000 hi else timesLo lo
def sizeS : Nat → Tr → Int
  | 0, _ => 0
  | k + 1, t => cut1001 ((if t.kind = 7 then sumS (t.parts.map (sizeS k)) * timesS t.lo t.hi else sumS (t.parts.map (sizeS k))) + 1)
theorem cut1001_le (x : Int) : cut1001 x ≤ 1001 := by unfold cut1001; split <;> omega
theorem cut1001_ge (x : Int) (h : 0 ≤ x) : 0 ≤ cut1001 x := by unfold cut1001; split <;> omega
theorem sumS_snoc (l : List Int) (x : Int) : sumS (l ++ [x]) = cut1001 (sumS l + x) := by unfold sumS; rw [List.foldl_append]; rfl
theorem sumS_le (l : List Int) : sumS l ≤ 1001 := by
  unfold sumS
  have : ∀ a : Int, a ≤ 1001 → l.foldl (fun n x => cut1001 (n + x)) a ≤ 1001 := by
    induction l with
    | nil => exact fun a h => h
    | cons x r ih => intro a _; rw [List.foldl_cons]; exact ih _ (cut1001_le _)
  exact this 0 (by omega)
theorem sumS_ge (l : List Int) (h : ∀ x ∈ l, 0 ≤ x) : 0 ≤ sumS l := by
  unfold sumS
  have : ∀ a : Int, 0 ≤ a → 0 ≤ l.foldl (fun n x => cut1001 (n + x)) a := by
    induction l with
    | nil => exact fun a h => h
    | cons x r ih =>
      intro a ha
      rw [List.foldl_cons]
      exact ih (fun y hy => h y (List.mem_cons_of_mem _ hy)) _ (cut1001_ge _ (by have := h x (by simp); omega))
  exact this 0 (by omega)
theorem timesLo_ge (lo : Int) : 1 ≤ timesLo lo := by unfold timesLo cut2000; split <;> (try split) <;> omega
theorem timesLo_le (lo : Int) : timesLo lo ≤ 2000 := by unfold timesLo cut2000; split <;> (try split) <;> omega
theorem timesS_ge (lo hi : Int) : 1 ≤ timesS lo hi := by
  have := timesLo_ge lo
  unfold timesS cut2000; split <;> (try split) <;> omega
theorem timesS_le (lo hi : Int) : timesS lo hi ≤ 2000 := by
  have := timesLo_le lo
  unfold timesS cut2000; split <;> (try split) <;> omega
theorem sizeS_ge : ∀ (k : Nat) (t : Tr), 0 ≤ sizeS k t
  | 0, _ => Int.le_refl _
  | k + 1, t => by
    have h : 0 ≤ sumS (t.parts.map (sizeS k)) := sumS_ge _ (by
      intro x hx
      rw [List.mem_map] at hx
      obtain ⟨p, _, rfl⟩ := hx
      exact sizeS_ge k p)
    have ht := timesS_ge t.lo t.hi
    refine cut1001_ge _ ?_
    split
    · have := Int.mul_nonneg h (show (0 : Int) ≤ timesS t.lo t.hi by omega); omega
    · omega
theorem sizeS_le (k : Nat) (t : Tr) : sizeS k t ≤ 1001 := by
  cases k with
  | zero => show (0 : Int) ≤ 1001; omega
  | succ k => exact cut1001_le _
def sizeTo (k : Nat) (t : Tr) (j : Nat) : Int := sumS ((t.parts.take j).map (sizeS k))
theorem sizeTo_zero (k : Nat) (t : Tr) : sizeTo k t 0 = 0 := rfl
theorem sizeTo_succ (k : Nat) (t : Tr) (j : Nat) (h : j < t.parts.length) : sizeTo k t (j + 1) = cut1001 (sizeTo k t j + sizeS k t.parts[j]) := by
  unfold sizeTo; rw [List.take_succ_eq_append_getElem h, List.map_append, List.map_singleton, sumS_snoc]
theorem sizeTo_le (k : Nat) (t : Tr) (j : Nat) : sizeTo k t j ≤ 1001 := sumS_le _
theorem sizeTo_ge (k : Nat) (t : Tr) (j : Nat) : 0 ≤ sizeTo k t j := sumS_ge _ (by
  intro x hx
  rw [List.mem_map] at hx
  obtain ⟨p, _, rfl⟩ := hx
  exact sizeS_ge k p)
theorem sizeTo_times (k : Nat) (t : Tr) (h : t.kind = 7) : cut1001 (sizeTo k t t.parts.length * timesS t.lo t.hi + 1) = sizeS (k + 1) t := by
  unfold sizeTo; rw [List.take_length]; show _ = cut1001 (_ + 1); rw [if_pos h]
theorem sizeTo_plain (k : Nat) (t : Tr) (h : ¬ t.kind = 7) : cut1001 (sizeTo k t t.parts.length + 1) = sizeS (k + 1) t := by
  unfold sizeTo; rw [List.take_length]; show _ = cut1001 (_ + 1); rw [if_neg h]
theorem cut1001_yes {x : Int} (h : 1001 < x) : cut1001 x = 1001 := by unfold cut1001; rw [if_pos h]
theorem cut1001_no {x : Int} (h : ¬ 1001 < x) : cut1001 x = x := by unfold cut1001; rw [if_neg h]
theorem mul_bounds {x T : Int} (h0 : 0 ≤ x) (h1 : x ≤ 1001) (h2 : 1 ≤ T) (h3 : T ≤ 2000) : 0 ≤ x * T ∧ x * T ≤ 2002000 := by
  have a := Int.mul_nonneg h0 (show (0 : Int) ≤ T by omega)
  have b := Int.mul_le_mul h1 h3 (by omega) (by omega : (0 : Int) ≤ 1001)
  exact ⟨a, by omega⟩
theorem wrap_same {x : Int} (h : I64 x) : wrap64 x = x := by unfold wrap64; unfold I64 at h; omega
theorem ret_int {k : IntKind} {a b : Int} (h : a = b) : Ending.returned (.int k a) = .returned (.int k b) := by rw [h]

end Go.Proofs.Ytjkcbojlopdonaa

/- Patterns without their addresses; patterns turned round; what stays the same. No program is named here. -/
namespace Go.Proofs.Ytjkcbojlopdonaa
open Go.RowKit

def Tr.blank : Tr := .node 0 ⟨0, 0, 0, 0⟩ none 0 0 [] 0 0 false
/-- The pattern alone, wherever it lies. -/
def Tr.strip : Nat → Tr → Tr
  | 0, _ => Tr.blank
  | k + 1, t => .node t.kind t.set none t.parts.length 0 (t.parts.map (Tr.strip k)) t.lo t.hi t.neg
theorem strip_parts {k : Nat} {a b : Tr} (h : a.strip (k + 1) = b.strip (k + 1)) : a.kind = b.kind ∧ a.set = b.set ∧ a.lo = b.lo ∧ a.hi = b.hi ∧ a.neg = b.neg ∧ a.parts.length = b.parts.length ∧ a.parts.map (Tr.strip k) = b.parts.map (Tr.strip k) := by
  have h' : Tr.node a.kind a.set none a.parts.length 0 (a.parts.map (Tr.strip k)) a.lo a.hi a.neg = Tr.node b.kind b.set none b.parts.length 0 (b.parts.map (Tr.strip k)) b.lo b.hi b.neg := h
  injection h' with h1 h2 _ h4 _ h6 h7 h8 h9
  exact ⟨h1, h2, h7, h8, h9, h4, h6⟩
/- Alike. -/
theorem deep_part {k j : Nat} {m : Int} {t : Tr} (h : deepS (k + 1) m t ≤ m) (hj : j < t.parts.length) : 1 ≤ m ∧ deepS k (m - 1) t.parts[j] ≤ m - 1 := by
  have h' : (if m < 1 then 1 else 1 + maxl (t.parts.map (deepS k (m - 1)))) ≤ m := h
  have hm : 1 ≤ m := by split at h' <;> omega
  rw [if_neg (by omega)] at h'
  refine ⟨hm, ?_⟩
  have h1 : ∀ (l : List Int) (x : Int), x ∈ l → x ≤ maxl l := by
    intro l x hx
    unfold maxl
    have : ∀ (l : List Int) (a x : Int), (x ∈ l ∨ x ≤ a) → x ≤ l.foldl max a := by
      intro l
      induction l with
      | nil => intro a x h; rcases h with h | h; cases h; exact h
      | cons y r ih =>
        intro a x h
        rw [List.foldl_cons]
        refine ih _ _ ?_
        rcases h with h | h
        · rcases List.mem_cons.1 h with rfl | h
          · exact Or.inr (by omega)
          · exact Or.inl h
        · exact Or.inr (by omega)
    exact this l 0 x (Or.inl hx)
  have h2 := h1 (t.parts.map (deepS k (m - 1))) (deepS k (m - 1) t.parts[j]) (List.mem_map.2 ⟨_, List.getElem_mem hj, rfl⟩)
  omega
/- Formed, deep, great: no address has a say, and turning leaves them. -/
end Go.Proofs.Ytjkcbojlopdonaa
