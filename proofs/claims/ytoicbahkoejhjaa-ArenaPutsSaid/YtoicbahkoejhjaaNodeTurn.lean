/- What turning nodes round does to their tables: mathematics; no program is named. -/
import Derived.Test.YtoicbahkoejhjaaNode
import Derived.Test.YtoicbahkoejhjaaTurnSpans
namespace Go.Proofs.Ytoicbahkoejhjaa
open Go.RowKit
set_option linter.unusedSimpArgs false
set_option linter.unusedVariables false

theorem nodesF_prefix (l bits : List Nat) (ns : List Nd) (a j : Nat) (ha : a < j) : ∀ m, j ≤ m → (nodesF l bits ns m)[a]? = (nodesF l bits ns j)[a]?
  | 0, h => by omega
  | m + 1, h => by
    by_cases e : j = m + 1
    · rw [e]
    · show (nodesF l bits ns m ++ [_])[a]? = _
      rw [List.getElem?_append_left (by rw [nodesF_length]; omega)]
      exact nodesF_prefix l bits ns a j ha m (by omega)
theorem nodeF_congr (l bits : List Nat) {fs gs : List (Nat → Nat → Bool)} {x : Nd} (ha : (x.kind = 3 ∨ x.kind = 4 ∨ x.kind = 5) ∨ (x.kind = 6 ∨ x.kind = 7) → fAt fs x.a = fAt gs x.a) (hb : x.kind = 3 ∨ x.kind = 4 ∨ x.kind = 5 → fAt fs x.b = fAt gs x.b) : nodeF l bits fs x = nodeF l bits gs x := by
  unfold nodeF
  by_cases h1 : x.kind = 1
  · rw [if_pos h1, if_pos h1]
  rw [if_neg h1, if_neg h1]
  by_cases h2 : x.kind = 2
  · rw [if_pos h2, if_pos h2]
  rw [if_neg h2, if_neg h2]
  by_cases h3 : x.kind = 3
  · rw [if_pos h3, if_pos h3, ha (Or.inl (Or.inl h3)), hb (Or.inl h3)]
  rw [if_neg h3, if_neg h3]
  by_cases h4 : x.kind = 4
  · rw [if_pos h4, if_pos h4, ha (Or.inl (Or.inr (Or.inl h4))), hb (Or.inr (Or.inl h4))]
  rw [if_neg h4, if_neg h4]
  by_cases h5 : x.kind = 5
  · rw [if_pos h5, if_pos h5, ha (Or.inl (Or.inr (Or.inr h5))), hb (Or.inr (Or.inr h5))]
  rw [if_neg h5, if_neg h5]
  by_cases h6 : x.kind = 6
  · rw [if_pos h6, if_pos h6, ha (Or.inr (Or.inl h6))]
  rw [if_neg h6, if_neg h6]
  by_cases h7 : x.kind = 7
  · rw [if_pos h7, if_pos h7, ha (Or.inr (Or.inr h7))]
  rw [if_neg h7, if_neg h7]
/-- The table of a node. -/
def nodeT (l bits : List Nat) (ns : List Nd) (i : Int) : Nat → Nat → Bool := fAt (nodesF l bits ns ns.length) i
theorem fAt_prefix (l bits : List Nat) (ns : List Nd) (a : Int) (j : Nat) (h0 : 0 ≤ a) (h : a < j) (hj : j ≤ ns.length) : fAt (nodesF l bits ns j) a = nodeT l bits ns a := by
  unfold nodeT fAt
  rw [nodesF_prefix l bits ns a.toNat j (by omega) ns.length hj]
theorem nodeT_eq (l bits : List Nat) (ns : List Nd) (hok : ∀ j, j < ns.length → NdOk (ndAt ns j) j) (i : Nat) (hi : i < ns.length) : nodeT l bits ns i = nodeF l bits (nodesF l bits ns ns.length) (ndAt ns i) := by
  have h1 : nodeT l bits ns i = nodeF l bits (nodesF l bits ns i) (ndAt ns i) := by
    rw [← fAt_prefix l bits ns i (i + 1) (by omega) (by omega) (by omega)]
    unfold fAt
    rw [Int.toNat_natCast]
    show ((nodesF l bits ns i ++ [_])[i]?).getD noF = _
    rw [List.getElem?_append_right (by rw [nodesF_length]; omega), nodesF_length, Nat.sub_self]
    rfl
  rw [h1]
  have ho := hok i hi
  refine nodeF_congr l bits (fun h => ?_) (fun h => ?_)
  · have ha : 0 ≤ (ndAt ns i).a ∧ (ndAt ns i).a < i := by
      rcases h with h | h
      · exact ⟨(ho.2.1 h).1, (ho.2.1 h).2.1⟩
      · exact ho.2.2.1 h
    exact fAt_prefix l bits ns _ i ha.1 ha.2 (by omega)
  · have hb := (ho.2.1 h).2.2
    exact fAt_prefix l bits ns _ i hb.1 hb.2 (by omega)
theorem and_congr' {n : Nat} {f f' g g' : Tbl} (h : Eqv n f f') (h' : Eqv n g g') : Eqv n (fun i j => f i j && g i j) (fun i j => f' i j && g' i j) := fun i j hi hj => by
  show (f i j && g i j) = _
  rw [h i j hi hj, h' i j hi hj]
theorem bit_flip (bits : List Nat) (a : Nat) (neg : Bool) : Eqv bits.length (bitF bits.reverse a neg) (flipF bits.length (bitF bits a neg)) := fun i j hi hj => by
  unfold flipF bitF
  by_cases e : i = j
  · subst e
    rw [decide_eq_true rfl, decide_eq_true rfl, rev_at bits i hi]
  · rw [decide_eq_false e, decide_eq_false (show ¬ (bits.length - 1 - j = bits.length - 1 - i) by omega)]
    rfl
/-- x is the node i turned round, all the way down. -/
def TurnR (ns : List Nd) : Nat → Int → Int → Prop
  | 0, _, _ => False
  | f + 1, i, x => 0 ≤ i ∧ i < ns.length ∧ 0 ≤ x ∧ x < ns.length ∧ (let p := ndAt ns i.toNat; let q := ndAt ns x.toNat
    q.kind = p.kind ∧ (p.kind = 2 → q.set = p.set) ∧ (p.kind = 3 → TurnR ns f p.a q.b ∧ TurnR ns f p.b q.a) ∧ (p.kind = 4 ∨ p.kind = 5 → TurnR ns f p.a q.a ∧ TurnR ns f p.b q.b) ∧ (p.kind = 6 ∨ p.kind = 7 → TurnR ns f p.a q.a) ∧ (p.kind = 8 → q.a = p.a ∧ q.neg = p.neg))
theorem turn_tables (l bits : List Nat) (ns : List Nd) (hl : bits.length = l.length + 1) (hok : ∀ j, j < ns.length → NdOk (ndAt ns j) j) : ∀ (f : Nat) (i x : Int), TurnR ns f i x →
    Eqv (l.length + 1) (nodeT l.reverse bits.reverse ns x) (flipF (l.length + 1) (nodeT l bits ns i))
  | 0, _, _, h => h.elim
  | f + 1, i, x, h => by
    obtain ⟨i0, i1, x0, x1, hk, h2, h3, h45, h67, h8⟩ := h
    obtain ⟨i', rfl⟩ : ∃ i' : Nat, i = (i' : Int) := ⟨i.toNat, by omega⟩
    obtain ⟨x', rfl⟩ : ∃ x' : Nat, x = (x' : Int) := ⟨x.toNat, by omega⟩
    rw [Int.toNat_natCast] at hk h2 h3 h45 h67 h8
    rw [Int.toNat_natCast] at hk h2 h3 h45 h67 h8
    rw [nodeT_eq l.reverse bits.reverse ns hok x' (by omega), nodeT_eq l bits ns hok i' (by omega)]
    obtain ⟨p, hp⟩ : ∃ p, ndAt ns i' = p := ⟨_, rfl⟩
    obtain ⟨q, hq⟩ : ∃ q, ndAt ns x' = q := ⟨_, rfl⟩
    rw [hp, hq] at hk h2 h3 h45 h67 h8 ⊢
    unfold nodeF
    rw [List.length_reverse, hk]
    by_cases k1 : p.kind = 1
    · rw [if_pos k1, if_pos k1]; exact (eq_flip _).symm
    rw [if_neg k1, if_neg k1]
    by_cases k2 : p.kind = 2
    · rw [if_pos k2, if_pos k2, h2 k2]; exact byte_flip p.set l _ rfl
    rw [if_neg k2, if_neg k2]
    by_cases k3 : p.kind = 3
    · rw [if_pos k3, if_pos k3]
      obtain ⟨ha, hb⟩ := h3 k3
      exact (then_congr (turn_tables l bits ns hl hok f _ _ hb) (turn_tables l bits ns hl hok f _ _ ha)).trans (then_flip _ _ _).symm
    rw [if_neg k3, if_neg k3]
    by_cases k4 : p.kind = 4
    · rw [if_pos k4, if_pos k4]
      obtain ⟨ha, hb⟩ := h45 (Or.inl k4)
      exact or_congr (turn_tables l bits ns hl hok f _ _ ha) (turn_tables l bits ns hl hok f _ _ hb)
    rw [if_neg k4, if_neg k4]
    by_cases k5 : p.kind = 5
    · rw [if_pos k5, if_pos k5]
      obtain ⟨ha, hb⟩ := h45 (Or.inr k5)
      exact and_congr' (turn_tables l bits ns hl hok f _ _ ha) (turn_tables l bits ns hl hok f _ _ hb)
    rw [if_neg k5, if_neg k5]
    by_cases k6 : p.kind = 6
    · rw [if_pos k6, if_pos k6]
      exact (other_congr (turn_tables l bits ns hl hok f _ _ (h67 (Or.inl k6)))).trans (other_flip _ _).symm
    rw [if_neg k6, if_neg k6]
    by_cases k7 : p.kind = 7
    · rw [if_pos k7, if_pos k7]
      exact (any_congr (turn_tables l bits ns hl hok f _ _ (h67 (Or.inr k7))) _).trans (any_flip _ _ _).symm
    rw [if_neg k7, if_neg k7]
    by_cases k8 : p.kind = 8
    · rw [if_pos k8, if_pos k8, (h8 k8).1, (h8 k8).2]
      have hb := bit_flip bits p.a.toNat p.neg
      rw [hl] at hb
      exact hb
    rw [if_neg k8, if_neg k8]
    exact fun _ _ _ _ => rfl

end Go.Proofs.Ytoicbahkoejhjaa
