/- package formula: mathematics: what is left of a sorted list where neighbours that are equal go; what the least parts are. No program is walked here. -/
import Derived.Test.YtehokjaojanieaaFoC
import Derived.Lib.SlicesCompact
import Derived.Test.YtehokjaojanieaaFmOpMath
namespace Go.Proofs.Ytehokjaojanieaa
open Go.RowKit
set_option linter.unusedVariables false
set_option linter.unusedSimpArgs false

section
variable {α κ : Type} [Inhabited α] [DecidableEq κ] (key : α → κ)
/-- Place j of d is kept: it is the first, or has another key than the place before it. -/
def keepsB (d : Array α) (j : Nat) : Bool := decide (j = 0) || !decide (key d[j]! = key d[j - 1]!)
def compB (d : Array α) (m : Nat) : List α := ((List.range m).filter (keepsB key d)).map (d[·]!)
variable {key}
theorem compB_succ (d : Array α) (m : Nat) : compB key d (m + 1) = compB key d m ++ (if keepsB key d m then [d[m]!] else []) := by
  unfold compB
  rw [List.range_succ, List.filter_append, List.map_append]
  congr 1
  by_cases h : keepsB key d m <;> simp [h]
theorem compB_all (d : Array α) (m : Nat) (h : ∀ j, j < m → keepsB key d j = true) : compB key d m = (List.range m).map (d[·]!) := by
  unfold compB
  rw [List.filter_eq_self.2 (fun j hj => h j (List.mem_range.1 hj))]
theorem compB_mem {d : Array α} {m : Nat} {x : α} (h : x ∈ compB key d m) : ∃ i, i < m ∧ d[i]! = x := by
  unfold compB at h
  obtain ⟨i, hi, e⟩ := List.mem_map.1 h
  exact ⟨i, List.mem_range.1 (List.mem_filter.1 hi).1, e⟩
theorem compB_len (d : Array α) (m : Nat) : (compB key d m).length ≤ m := by
  unfold compB
  rw [List.length_map]
  exact Nat.le_trans (List.length_filter_le _ _) (by simp)
variable {R : κ → κ → Prop}
theorem compB_ok (hi : ∀ a, ¬ R a a) (ht : ∀ a b c, R a b → R b c → R a c) {d : Array α} {n : Nat} (hs : ∀ i j, i < j → j < n → R (key d[i]!) (key d[j]!) ∨ key d[i]! = key d[j]!) :
    ∀ m, m ≤ n → ((compB key d m).map key).Pairwise R ∧ ∀ i, i < m → ∃ y ∈ compB key d m, key y = key d[i]!
  | 0, _ => ⟨List.Pairwise.nil, fun i h => absurd h (Nat.not_lt_zero _)⟩
  | m + 1, hm => by
    obtain ⟨h1, h2⟩ := compB_ok hi ht hs m (by omega)
    rw [compB_succ]
    by_cases hk : keepsB key d m = true
    · rw [if_pos hk]
      refine ⟨?_, fun i hi' => ?_⟩
      · rw [List.map_append, List.pairwise_append]
        refine ⟨h1, by simp, fun a ha b hb => ?_⟩
        simp only [List.map_cons, List.map_nil, List.mem_singleton] at hb
        subst hb
        obtain ⟨y, hy, rfl⟩ := List.mem_map.1 ha
        obtain ⟨i, him, rfl⟩ := compB_mem hy
        rcases hs i m him (by omega) with h | h
        · exact h
        · exfalso
          have hm0 : m ≠ 0 := by omega
          have hne : key d[m]! ≠ key d[m - 1]! := by
            unfold keepsB at hk
            simpa [hm0] using hk
          rcases hs (m - 1) m (by omega) (by omega) with h3 | h3
          · by_cases e : i = m - 1
            · subst e; rw [h] at h3; exact hi _ h3
            · rcases hs i (m - 1) (by omega) (by omega) with h4 | h4
              · have := ht _ _ _ h4 h3; rw [h] at this; exact hi _ this
              · rw [← h4, h] at h3; exact hi _ h3
          · exact hne h3.symm
      · by_cases e : i = m
        · subst e; exact ⟨_, List.mem_append_right _ (List.mem_singleton.2 rfl), rfl⟩
        · obtain ⟨y, hy, e2⟩ := h2 i (by omega)
          exact ⟨y, List.mem_append_left _ hy, e2⟩
    · rw [if_neg hk, List.append_nil]
      refine ⟨h1, fun i hi' => ?_⟩
      by_cases e : i = m
      · subst e
        unfold keepsB at hk
        have : i ≠ 0 ∧ key d[i]! = key d[i - 1]! := by simpa using hk
        obtain ⟨y, hy, e2⟩ := h2 (i - 1) (by omega)
        exact ⟨y, hy, by rw [e2, this.2]⟩
      · exact h2 i (by omega)
end
/-- slices.Compact of sorted numbers. -/
theorem compact_up {l : List Int} (hs : l.Pairwise (· ≤ ·)) : Up (Lib.compact l) ∧ ∀ x, x ∈ Lib.compact l ↔ x ∈ l := by
  have e : Lib.compact l = compB (fun x : Int => x) l.toArray l.length := by
    unfold Lib.compact Lib.compactUpTo compB
    congr 1
    apply List.filter_congr
    intro j _
    unfold Lib.keeps keepsB
    by_cases h : j = 0 <;> simp [h]
  have hat : ∀ i, i < l.length → l.toArray[i]! = inAt l i := fun i hi => by
    rw [getElem!_pos l.toArray i (by simpa using hi), inAt_lt hi]; simp
  have hso : ∀ i j, i < j → j < l.length → (l.toArray[i]! : Int) < l.toArray[j]! ∨ (l.toArray[i]! : Int) = l.toArray[j]! := fun i j hij hj => by
    rw [hat i (by omega), hat j hj, inAt_lt (by omega), inAt_lt hj]
    have := List.pairwise_iff_getElem.1 hs i j (by omega) hj hij
    omega
  obtain ⟨h1, h2⟩ := compB_ok (key := fun x : Int => x) (R := fun a b => a < b) (d := l.toArray) (n := l.length) (fun a h => by omega) (fun a b c h h' => by omega) hso l.length (Nat.le_refl _)
  rw [List.map_id'] at h1
  refine ⟨by rw [e]; exact h1, fun x => ?_⟩
  rw [e]
  constructor
  · intro h
    obtain ⟨i, hi, rfl⟩ := compB_mem h
    rw [hat i hi, inAt_lt hi]; exact List.getElem_mem hi
  · intro h
    obtain ⟨i, hi, rfl⟩ := List.mem_iff_getElem.1 h
    obtain ⟨y, hy, e2⟩ := h2 i hi
    have e3 : y = l[i] := by rw [← inAt_lt hi, ← hat i hi]; exact e2
    rw [← e3]; exact hy

end Go.Proofs.Ytehokjaojanieaa
