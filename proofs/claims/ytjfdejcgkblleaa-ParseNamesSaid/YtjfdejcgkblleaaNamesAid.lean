/- What the law of names leans on: counts, and an Or of a pattern and a byte. -/
import Derived.Test.YtjfdejcgkblleaaLawNamesA
namespace Go.Proofs.Ytjfdejcgkblleaa
open Go.RowKit
set_option linter.unusedSimpArgs false
set_option linter.unusedVariables false

theorem cfold_sum : ∀ (l : List Int) (a : Int), cfold l a ≤ 2000 → cfold l a = a + l.foldr (· + ·) 0
  | [], a, _ => by show a = a + 0; omega
  | x :: r, a, h => by
    unfold cfold at h ⊢
    split at h
    · omega
    · rename_i hh
      rw [if_neg hh]
      rw [cfold_sum r (a + x) h, List.foldr_cons]; omega
theorem foldr_nonneg {l : List Int} (h : ∀ x ∈ l, 0 ≤ x) : 0 ≤ l.foldr (· + ·) 0 := by
  induction l with
  | nil => exact Int.le_refl _
  | cons x r ih => have := h x (by simp); have := ih (fun y hy => h y (List.mem_cons_of_mem _ hy)); rw [List.foldr_cons]; omega
theorem foldr_mem {l : List Int} (h : ∀ x ∈ l, 0 ≤ x) : ∀ x ∈ l, x ≤ l.foldr (· + ·) 0 := by
  induction l with
  | nil => exact fun x hx => absurd hx List.not_mem_nil
  | cons y r ih =>
    intro x hx
    have h1 := h y (by simp)
    have h2 := foldr_nonneg (fun z hz => h z (List.mem_cons_of_mem _ hz))
    rw [List.foldr_cons]
    rcases List.mem_cons.1 hx with rfl | hx
    · omega
    · have := ih (fun z hz => h z (List.mem_cons_of_mem _ hz)) x hx; omega
theorem cfold_ge : ∀ (l : List Int) (a : Int), (∀ x ∈ l, 0 ≤ x) → a ≤ cfold l a
  | [], a, _ => Int.le_refl _
  | x :: r, a, h => by
    have := h x (by simp)
    unfold cfold
    split
    · omega
    · have := cfold_ge r (a + x) (fun y hy => h y (List.mem_cons_of_mem _ hy)); omega
theorem nodes_ge : ∀ (k : Nat) (m : Int) (t : Tr), 0 ≤ nodesS k m t
  | 0, _, _ => Int.le_refl _
  | k + 1, m, t => by
    by_cases h : m < 1
    · rw [nodesS_deep h]; omega
    · rw [← nodesS_is h, List.drop_zero]
      have := cfold_ge (t.parts.map (nodesS k (m - 1))) 1 (fun x hx => by rw [List.mem_map] at hx; obtain ⟨p, _, rfl⟩ := hx; exact nodes_ge k (m - 1) p)
      omega
theorem few_mass : ∀ (k : Nat) (m : Int) (t : Tr), Tr.Lv k t → nodesS k m t ≤ 2000 → (massS k t : Int) ≤ nodesS k m t
  | 0, _, _, h, _ => h.elim
  | k + 1, m, t, hl, h => by
    by_cases hm : m < 1
    · rw [nodesS_deep hm] at h; omega
    · rw [← nodesS_is hm, List.drop_zero] at h ⊢
      have h0 : ∀ x ∈ t.parts.map (nodesS k (m - 1)), 0 ≤ x := fun x hx => by rw [List.mem_map] at hx; obtain ⟨p, _, rfl⟩ := hx; exact nodes_ge k (m - 1) p
      have hs := cfold_sum _ _ h
      rw [hs] at h ⊢
      have key : ∀ l : List Tr, (∀ p ∈ l, Tr.Lv k p) → (∀ p ∈ l, nodesS k (m - 1) p ≤ 2000) → (((l.map (massS k)).sum : Nat) : Int) ≤ (l.map (nodesS k (m - 1))).foldr (· + ·) 0 := fun l => by
        induction l with
        | nil => exact fun _ _ => Int.le_refl _
        | cons p r ih =>
          intro a b
          have h1 := few_mass k (m - 1) p (a p (by simp)) (b p (by simp))
          have h2 := ih (fun q hq => a q (List.mem_cons_of_mem _ hq)) (fun q hq => b q (List.mem_cons_of_mem _ hq))
          rw [List.map_cons, List.map_cons, List.sum_cons, List.foldr_cons]
          push_cast
          omega
      have := key t.parts hl (fun p hp => by
        have := foldr_mem h0 _ (List.mem_map_of_mem hp)
        omega)
      show ((1 + (t.parts.map (massS k)).sum : Nat) : Int) ≤ _
      push_cast
      omega
theorem maxl_mem' {l : List Int} {x : Int} (hx : x ∈ l) : x ≤ maxl l := by
  have key : ∀ (l : List Int) (a : Int), a ≤ l.foldl max a ∧ ∀ x ∈ l, x ≤ l.foldl max a := fun l => by
    induction l with
    | nil => exact fun a => ⟨Int.le_refl _, fun x hx => absurd hx List.not_mem_nil⟩
    | cons y r ih =>
      intro a
      rw [List.foldl_cons]
      have h := ih (max a y)
      refine ⟨by have := h.1; omega, fun x hx => ?_⟩
      rcases List.mem_cons.1 hx with rfl | hx
      · have := h.1; omega
      · exact h.2 x hx
  exact (key l 0).2 x hx
theorem deep_less : ∀ (k : Nat) (m : Int) (t : Tr), 0 ≤ m → deepS k (m + 1) t ≤ m → deepS k m t ≤ m
  | 0, m, _, hm, _ => hm
  | k + 1, m, t, hm, h => by
    have h' : (if m + 1 < 1 then (1 : Int) else 1 + maxl (t.parts.map (deepS k (m + 1 - 1)))) ≤ m := h
    rw [if_neg (by omega), show m + 1 - 1 = m by omega] at h'
    have hg := maxl_ge (t.parts.map (deepS k m))
    show (if m < 1 then (1 : Int) else 1 + maxl (t.parts.map (deepS k (m - 1)))) ≤ m
    rw [if_neg (by omega)]
    have : maxl (t.parts.map (deepS k (m - 1))) ≤ m - 1 := by
      refine maxl_le _ _ (by omega) fun x hx => ?_
      rw [List.mem_map] at hx
      obtain ⟨p, hp, rfl⟩ := hx
      have hd := maxl_mem' (List.mem_map_of_mem (f := deepS k m) hp)
      exact deep_less k (m - 1) p (by omega) (by rw [show m - 1 + 1 = m by omega]; omega)
    omega
theorem strip_lv : ∀ (k : Nat) (t : Tr), Tr.Lv k t → t.strip (k + 1) = t.strip k
  | 0, _, h => h.elim
  | k + 1, t, h => by
    show Tr.node t.kind t.set none t.parts.length 0 (t.parts.map (Tr.strip (k + 1))) t.lo t.hi t.neg = Tr.node t.kind t.set none t.parts.length 0 (t.parts.map (Tr.strip k)) t.lo t.hi t.neg
    rw [map_congr' (fun p hp => strip_lv k p (h p hp))]
theorem strip_same {k k' : Nat} {t : Tr} (h : Tr.Lv k t) (hk : k ≤ k') : t.strip k' = t.strip k := by
  obtain ⟨d, rfl⟩ : ∃ d, k' = k + d := ⟨k' - k, by omega⟩
  clear hk
  have : t.strip (k + d) = t.strip k ∧ Tr.Lv (k + d) t := by
    induction d with
    | zero => exact ⟨rfl, h⟩
    | succ d ih => exact ⟨(strip_lv (k + d) t ih.2).trans ih.1, Tr.Lv.up _ _ ih.2⟩
  exact this.1
theorem or_formed {k : Nat} {t : Tr} (hl : Tr.Lv k t) (h1 : isFormed k t = true) (h2 : deepS k 40 t ≤ 39) (h3 : sizeS k t ≤ 998) : FormedT (nodeT 4 [t.strip k, leafT 2 (St.zero.put 97) false] 0 0 false) := by
  obtain ⟨k', rfl⟩ : ∃ k', k = k' + 1 := by
    cases k with
    | zero => exact hl.elim
    | succ k' => exact ⟨k', rfl⟩
  have hss := strip_strip (k' + 1) t
  have hd : deepS (k' + 1) 39 (t.strip (k' + 1)) ≤ 39 := by
    rw [deepS_congr (k' + 1) 39 _ t hss]
    exact deep_less (k' + 1) 39 t (by omega) h2
  have hz : sizeS (k' + 1) (t.strip (k' + 1)) ≤ 998 := by rw [sizeS_congr (k' + 1) _ t hss]; exact h3
  have hz0 : 0 ≤ sizeS (k' + 1) (t.strip (k' + 1)) := by have := size_pos (k' + 1) _ (Tr.Lv.strip (k' + 1) t hl); omega
  have hf : formedS (k' + 1) (t.strip (k' + 1)) = true := by
    rw [formedS_congr (k' + 1) _ t hss]
    unfold isFormed at h1
    rw [Bool.and_eq_true, Bool.and_eq_true] at h1
    exact h1.2.1
  have hlf : formedS (k' + 1) (leafT 2 (St.zero.put 97) false) = true := by
    show (ownF _ && [].all _) = true
    rw [List.all_nil, Bool.and_true]
    kernel_rfl
  refine ⟨k' + 1 + 1, fun p hp => ?_, ?_⟩
  · have hp' : p ∈ [t.strip (k' + 1), leafT 2 (St.zero.put 97) false] := hp
    rcases List.mem_cons.1 hp' with rfl | hp'
    · exact Tr.Lv.strip (k' + 1) t hl
    · have : p = leafT 2 (St.zero.put 97) false := by simpa using hp'
      subst this
      exact fun q hq => absurd hq List.not_mem_nil
  · unfold isFormed
    rw [Bool.and_eq_true, Bool.and_eq_true]
    refine ⟨decide_eq_true ?_, ?_, decide_eq_true ?_⟩
    · show (if (40 : Int) < 1 then (1 : Int) else 1 + maxl [deepS (k' + 1) (40 - 1) (t.strip (k' + 1)), deepS (k' + 1) (40 - 1) (leafT 2 (St.zero.put 97) false)]) < 41
      rw [if_neg (by decide)]
      have hm : maxl [deepS (k' + 1) (40 - 1) (t.strip (k' + 1)), deepS (k' + 1) (40 - 1) (leafT 2 (St.zero.put 97) false)] ≤ 39 := by
        refine maxl_le _ _ (by decide) fun x hx => ?_
        rcases List.mem_cons.1 hx with rfl | hx
        · exact hd
        · have : x = deepS (k' + 1) (40 - 1) (leafT 2 (St.zero.put 97) false) := by simpa using hx
          subst this
          show (if ((40 : Int) - 1) < 1 then (1 : Int) else 1 + maxl []) ≤ 39
          decide
      omega
    · show (ownF (nodeT 4 [t.strip (k' + 1), leafT 2 (St.zero.put 97) false] 0 0 false) && ([t.strip (k' + 1), leafT 2 (St.zero.put 97) false]).all (formedS (k' + 1))) = true
      rw [List.all_cons, List.all_cons, List.all_nil, hf, hlf]
      simp only [Bool.and_true]
      unfold ownF cntF nodeT
      simp [Tr.kind, Tr.parts, Tr.set, Tr.neg, Tr.lo, Tr.hi, St.eqb, St.nil]
    · show cut1001 ((if (4 : Int) = 7 then sumS [sizeS (k' + 1) (t.strip (k' + 1)), sizeS (k' + 1) (leafT 2 (St.zero.put 97) false)] * timesS 0 0 else sumS [sizeS (k' + 1) (t.strip (k' + 1)), sizeS (k' + 1) (leafT 2 (St.zero.put 97) false)]) + 1) < 1001
      have hl1 : sizeS (k' + 1) (leafT 2 (St.zero.put 97) false) = 1 := by
        show cut1001 ((if (2 : Int) = 7 then sumS [] * timesS 0 0 else sumS []) + 1) = 1
        decide
      rw [if_neg (by decide), hl1]
      have hs2 : sumS [sizeS (k' + 1) (t.strip (k' + 1)), 1] = sizeS (k' + 1) (t.strip (k' + 1)) + 1 := by
        show cut1001 (cut1001 (0 + sizeS (k' + 1) (t.strip (k' + 1))) + 1) = _
        rw [cut1001_no (x := 0 + _) (by omega), cut1001_no (by omega)]; omega
      rw [hs2, cut1001_no (by omega)]; omega
end Go.Proofs.Ytjfdejcgkblleaa
