/- Joined: TrSize, Strip, TurnSpans, NodeTurn. -/
import Derived.Test.YtcghclikkeajfaaMa
import Derived.Test.YtcghclikkeajfaaMb
import Derived.Test.YtcghclikkeajfaaNode
/- How great a pattern is: by its parts, at most 1001. No program is named here. -/
namespace Go.Proofs.Ytcghclikkeajfaa
open Go.RowKit

def cut1001 (x : Int) : Int := if 1001 < x then 1001 else x
def sumS (l : List Int) : Int := l.foldl (fun n x => cut1001 (n + x)) 0
def cut2000 (x : Int) : Int := if 2000 < x then 2000 else x
/-- How many times a Times counts. -/
def timesLo (lo : Int) : Int := if 1 < lo then cut2000 lo else 1
def timesS (lo hi : Int) : Int := if timesLo lo < hi then cut2000 hi else timesLo lo
def sizeS : Nat → Tr → Int
  | 0, _ => 0
  | k + 1, t => cut1001 ((if t.kind = 7 then sumS (t.parts.map (sizeS k)) * timesS t.lo t.hi else sumS (t.parts.map (sizeS k))) + 1)
theorem cut1001_le (x : Int) : cut1001 x ≤ 1001 := by unfold cut1001; split <;> omega
theorem cut1001_ge (x : Int) (h : 0 ≤ x) : 0 ≤ cut1001 x := by unfold cut1001; split <;> omega
theorem sumS_snoc (l : List Int) (x : Int) : sumS (l ++ [x]) = cut1001 (sumS l + x) := by unfold sumS; rw [List.foldl_append]; rfl
theorem sumS_le (l : List Int) : sumS l ≤ 1001 := by
  unfold sumS
  have : ∀ a : Int, a ≤ 1001 → l.foldl (fun n x => cut1001 (n + x)) a ≤ 1001 := by
    induction l with
    | nil => exact fun a h => h
    | cons x r ih => intro a _; rw [List.foldl_cons]; exact ih _ (cut1001_le _)
  exact this 0 (by omega)
theorem sumS_ge (l : List Int) (h : ∀ x ∈ l, 0 ≤ x) : 0 ≤ sumS l := by
  unfold sumS
  have : ∀ a : Int, 0 ≤ a → 0 ≤ l.foldl (fun n x => cut1001 (n + x)) a := by
    induction l with
    | nil => exact fun a h => h
    | cons x r ih =>
      intro a ha
      rw [List.foldl_cons]
      exact ih (fun y hy => h y (List.mem_cons_of_mem _ hy)) _ (cut1001_ge _ (by have := h x (by simp); omega))
  exact this 0 (by omega)
theorem timesLo_ge (lo : Int) : 1 ≤ timesLo lo := by unfold timesLo cut2000; split <;> (try split) <;> omega
theorem timesLo_le (lo : Int) : timesLo lo ≤ 2000 := by unfold timesLo cut2000; split <;> (try split) <;> omega
theorem timesS_ge (lo hi : Int) : 1 ≤ timesS lo hi := by
  have := timesLo_ge lo
  unfold timesS cut2000; split <;> (try split) <;> omega
theorem timesS_le (lo hi : Int) : timesS lo hi ≤ 2000 := by
  have := timesLo_le lo
  unfold timesS cut2000; split <;> (try split) <;> omega
theorem sizeS_ge : ∀ (k : Nat) (t : Tr), 0 ≤ sizeS k t
  | 0, _ => Int.le_refl _
  | k + 1, t => by
    have h : 0 ≤ sumS (t.parts.map (sizeS k)) := sumS_ge _ (by
      intro x hx
      rw [List.mem_map] at hx
      obtain ⟨p, _, rfl⟩ := hx
      exact sizeS_ge k p)
    have ht := timesS_ge t.lo t.hi
    refine cut1001_ge _ ?_
    split
    · have := Int.mul_nonneg h (show (0 : Int) ≤ timesS t.lo t.hi by omega); omega
    · omega
theorem sizeS_le (k : Nat) (t : Tr) : sizeS k t ≤ 1001 := by
  cases k with
  | zero => show (0 : Int) ≤ 1001; omega
  | succ k => exact cut1001_le _
def sizeTo (k : Nat) (t : Tr) (j : Nat) : Int := sumS ((t.parts.take j).map (sizeS k))
theorem sizeTo_zero (k : Nat) (t : Tr) : sizeTo k t 0 = 0 := rfl
theorem sizeTo_succ (k : Nat) (t : Tr) (j : Nat) (h : j < t.parts.length) : sizeTo k t (j + 1) = cut1001 (sizeTo k t j + sizeS k t.parts[j]) := by
  unfold sizeTo; rw [List.take_succ_eq_append_getElem h, List.map_append, List.map_singleton, sumS_snoc]
theorem sizeTo_le (k : Nat) (t : Tr) (j : Nat) : sizeTo k t j ≤ 1001 := sumS_le _
theorem sizeTo_ge (k : Nat) (t : Tr) (j : Nat) : 0 ≤ sizeTo k t j := sumS_ge _ (by
  intro x hx
  rw [List.mem_map] at hx
  obtain ⟨p, _, rfl⟩ := hx
  exact sizeS_ge k p)
theorem sizeTo_times (k : Nat) (t : Tr) (h : t.kind = 7) : cut1001 (sizeTo k t t.parts.length * timesS t.lo t.hi + 1) = sizeS (k + 1) t := by
  unfold sizeTo; rw [List.take_length]; show _ = cut1001 (_ + 1); rw [if_pos h]
theorem sizeTo_plain (k : Nat) (t : Tr) (h : ¬ t.kind = 7) : cut1001 (sizeTo k t t.parts.length + 1) = sizeS (k + 1) t := by
  unfold sizeTo; rw [List.take_length]; show _ = cut1001 (_ + 1); rw [if_neg h]
theorem cut1001_yes {x : Int} (h : 1001 < x) : cut1001 x = 1001 := by unfold cut1001; rw [if_pos h]
theorem cut1001_no {x : Int} (h : ¬ 1001 < x) : cut1001 x = x := by unfold cut1001; rw [if_neg h]
theorem mul_bounds {x T : Int} (h0 : 0 ≤ x) (h1 : x ≤ 1001) (h2 : 1 ≤ T) (h3 : T ≤ 2000) : 0 ≤ x * T ∧ x * T ≤ 2002000 := by
  have a := Int.mul_nonneg h0 (show (0 : Int) ≤ T by omega)
  have b := Int.mul_le_mul h1 h3 (by omega) (by omega : (0 : Int) ≤ 1001)
  exact ⟨a, by omega⟩
theorem wrap_same {x : Int} (h : I64 x) : wrap64 x = x := by unfold wrap64; unfold I64 at h; omega
theorem ret_int {k : IntKind} {a b : Int} (h : a = b) : Ending.returned (.int k a) = .returned (.int k b) := by rw [h]

end Go.Proofs.Ytcghclikkeajfaa

/- Patterns without their addresses; patterns turned round; what stays the same. No program is named here. -/
namespace Go.Proofs.Ytcghclikkeajfaa
open Go.RowKit

def Tr.blank : Tr := .node 0 ⟨0, 0, 0, 0⟩ none 0 0 [] 0 0 false
/-- The pattern alone, wherever it lies. -/
def Tr.strip : Nat → Tr → Tr
  | 0, _ => Tr.blank
  | k + 1, t => .node t.kind t.set none t.parts.length 0 (t.parts.map (Tr.strip k)) t.lo t.hi t.neg
def turnKind (x : Int) : Int := if x = 8 then 9 else if x = 9 then 8 else if x = 10 then 11 else if x = 11 then 10 else x
/-- The pattern turned round. -/
def turnS : Nat → Tr → Tr
  | 0, _ => Tr.blank
  | k + 1, t => .node (turnKind t.kind) t.set none t.parts.length 0 (if t.kind = 3 then (t.parts.map (turnS k)).reverse else t.parts.map (turnS k)) t.lo t.hi t.neg
theorem turnKind_twice (x : Int) : turnKind (turnKind x) = x := by
  unfold turnKind
  by_cases h8 : x = 8
  · subst h8; decide
  by_cases h9 : x = 9
  · subst h9; decide
  by_cases h10 : x = 10
  · subst h10; decide
  by_cases h11 : x = 11
  · subst h11; decide
  rw [if_neg h8, if_neg h9, if_neg h10, if_neg h11, if_neg h8, if_neg h9, if_neg h10, if_neg h11]
theorem turnKind_three (x : Int) : turnKind x = 3 ↔ x = 3 := by
  unfold turnKind
  (repeat' split) <;> omega
theorem strip_parts {k : Nat} {a b : Tr} (h : a.strip (k + 1) = b.strip (k + 1)) : a.kind = b.kind ∧ a.set = b.set ∧ a.lo = b.lo ∧ a.hi = b.hi ∧ a.neg = b.neg ∧ a.parts.length = b.parts.length ∧ a.parts.map (Tr.strip k) = b.parts.map (Tr.strip k) := by
  have h' : Tr.node a.kind a.set none a.parts.length 0 (a.parts.map (Tr.strip k)) a.lo a.hi a.neg = Tr.node b.kind b.set none b.parts.length 0 (b.parts.map (Tr.strip k)) b.lo b.hi b.neg := h
  injection h' with h1 h2 _ h4 _ h6 h7 h8 h9
  exact ⟨h1, h2, h7, h8, h9, h4, h6⟩
theorem strip_strip : ∀ (k : Nat) (t : Tr), (t.strip k).strip k = t.strip k
  | 0, _ => rfl
  | k + 1, t => by
    show Tr.node t.kind t.set none (t.parts.map (Tr.strip k)).length 0 ((t.parts.map (Tr.strip k)).map (Tr.strip k)) t.lo t.hi t.neg = Tr.node t.kind t.set none t.parts.length 0 (t.parts.map (Tr.strip k)) t.lo t.hi t.neg
    rw [List.length_map, List.map_map]
    congr 1
    exact List.map_congr_left fun p _ => strip_strip k p
theorem turnS_strip : ∀ (k : Nat) (t : Tr), turnS k (t.strip k) = turnS k t
  | 0, _ => rfl
  | k + 1, t => by
    have e : (t.parts.map (Tr.strip k)).map (turnS k) = t.parts.map (turnS k) := by
      rw [List.map_map]; exact List.map_congr_left fun p _ => turnS_strip k p
    show Tr.node (turnKind t.kind) t.set none (t.parts.map (Tr.strip k)).length 0 (if t.kind = 3 then ((t.parts.map (Tr.strip k)).map (turnS k)).reverse else (t.parts.map (Tr.strip k)).map (turnS k)) t.lo t.hi t.neg = _
    rw [e, List.length_map]; rfl
theorem turnS_parts (k : Nat) (t : Tr) : (turnS (k + 1) t).parts = if t.kind = 3 then (t.parts.map (turnS k)).reverse else t.parts.map (turnS k) := rfl
theorem turnS_length (k : Nat) (t : Tr) : (turnS (k + 1) t).parts.length = t.parts.length := by rw [turnS_parts]; split <;> simp
theorem turn_strip : ∀ (k : Nat) (t : Tr), (turnS k t).strip k = turnS k t
  | 0, _ => rfl
  | k + 1, t => by
    show Tr.node (turnKind t.kind) t.set none (turnS (k + 1) t).parts.length 0 ((turnS (k + 1) t).parts.map (Tr.strip k)) t.lo t.hi t.neg = Tr.node (turnKind t.kind) t.set none t.parts.length 0 (if t.kind = 3 then (t.parts.map (turnS k)).reverse else t.parts.map (turnS k)) t.lo t.hi t.neg
    rw [turnS_length, turnS_parts]
    congr 1
    have e : (t.parts.map (turnS k)).map (Tr.strip k) = t.parts.map (turnS k) := by rw [List.map_map]; exact List.map_congr_left fun p _ => turn_strip k p
    split
    · rw [List.map_reverse, e]
    · exact e
theorem turn_turn : ∀ (k : Nat) (t : Tr), turnS k (turnS k t) = t.strip k
  | 0, _ => rfl
  | k + 1, t => by
    have e : (t.parts.map (turnS k)).map (turnS k) = t.parts.map (Tr.strip k) := by rw [List.map_map]; exact List.map_congr_left fun p _ => turn_turn k p
    show Tr.node (turnKind (turnKind t.kind)) t.set none (turnS (k + 1) t).parts.length 0 (if turnKind t.kind = 3 then ((turnS (k + 1) t).parts.map (turnS k)).reverse else (turnS (k + 1) t).parts.map (turnS k)) t.lo t.hi t.neg = Tr.node t.kind t.set none t.parts.length 0 (t.parts.map (Tr.strip k)) t.lo t.hi t.neg
    rw [turnKind_twice, turnS_length, turnS_parts]
    congr 1
    by_cases h : t.kind = 3
    · rw [if_pos ((turnKind_three _).2 h), if_pos h, List.map_reverse, List.reverse_reverse, e]
    · rw [if_neg (fun q => h ((turnKind_three _).1 q)), if_neg h, e]

/- Alike. -/
theorem strip_at {k j : Nat} {a b : Tr} (h : a.parts.map (Tr.strip k) = b.parts.map (Tr.strip k)) (ha : j < a.parts.length) (hb : j < b.parts.length) : a.parts[j].strip k = b.parts[j].strip k := by
  have h1 : (a.parts.map (Tr.strip k))[j]'(by simpa using ha) = (b.parts.map (Tr.strip k))[j]'(by simpa using hb) := by simp only [h]
  simpa using h1
theorem deep_part {k j : Nat} {m : Int} {t : Tr} (h : deepS (k + 1) m t ≤ m) (hj : j < t.parts.length) : 1 ≤ m ∧ deepS k (m - 1) t.parts[j] ≤ m - 1 := by
  have h' : (if m < 1 then 1 else 1 + maxl (t.parts.map (deepS k (m - 1)))) ≤ m := h
  have hm : 1 ≤ m := by split at h' <;> omega
  rw [if_neg (by omega)] at h'
  refine ⟨hm, ?_⟩
  have h1 : ∀ (l : List Int) (x : Int), x ∈ l → x ≤ maxl l := by
    intro l x hx
    unfold maxl
    have : ∀ (l : List Int) (a x : Int), (x ∈ l ∨ x ≤ a) → x ≤ l.foldl max a := by
      intro l
      induction l with
      | nil => intro a x h; rcases h with h | h; cases h; exact h
      | cons y r ih =>
        intro a x h
        rw [List.foldl_cons]
        refine ih _ _ ?_
        rcases h with h | h
        · rcases List.mem_cons.1 h with rfl | h
          · exact Or.inr (by omega)
          · exact Or.inl h
        · exact Or.inr (by omega)
    exact this l 0 x (Or.inl hx)
  have h2 := h1 (t.parts.map (deepS k (m - 1))) (deepS k (m - 1) t.parts[j]) (List.mem_map.2 ⟨_, List.getElem_mem hj, rfl⟩)
  omega
/-- Two that are the same pattern are alike, if they aren't too deep. -/
theorem sameS_strip : ∀ (k : Nat) (m : Int) (a b : Tr), (0 < k) → a.strip k = b.strip k → 1 ≤ m → (deepS k m a ≤ m) → (∀ w : World, Tr.In w k a → sameS k (m + 1) a b = true)
  | 0, _, _, _, h, _, _, _ => absurd h (Nat.lt_irrefl 0)
  | k + 1, m, a, b, _, he, hm, hd => fun w hi => by
    obtain ⟨e1, e2, e3, e4, e5, e6, e7⟩ := strip_parts he
    refine sameS_yes (by omega) (own_yes e1 (by rw [e2]; exact St.eqb_self _) e3 e4 e5 e6) ?_ e6
    have hall : ∀ j, j ≤ a.parts.length → sameTo k (m + 1 - 1) a b j = true := by
      intro j
      induction j with
      | zero => intro _; rfl
      | succ j ih =>
        intro hj
        obtain ⟨hm1, hdp⟩ := deep_part hd (show j < a.parts.length by omega)
        refine sameTo_succ (by omega) e6 (ih (by omega)) ?_
        have hip := hi.2.2.2 j (by omega)
        cases k with
        | zero => exact hip.elim
        | succ k =>
          have hm2 : 2 ≤ m := by
            have h0 : (if m - 1 < 1 then 1 else 1 + maxl (a.parts[j].parts.map (deepS k (m - 1 - 1)))) ≤ m - 1 := hdp
            split at h0 <;> omega
          have := sameS_strip (k + 1) (m - 1) a.parts[j] (b.parts[j]'(by omega)) (by omega) (strip_at e7 (by omega) (by omega)) (by omega) hdp w hip
          rw [show m - 1 + 1 = m + 1 - 1 from by omega] at this
          exact this
    exact hall _ (Nat.le_refl _)

/- Formed, deep, great: no address has a say, and turning leaves them. -/
theorem ownF_congr {a b : Tr} (h1 : a.kind = b.kind) (h2 : a.set = b.set) (h3 : a.lo = b.lo) (h4 : a.hi = b.hi) (h5 : a.neg = b.neg) (h6 : a.parts.length = b.parts.length) : ownF a = ownF b := by
  unfold ownF
  apply decide_eq_decide.2
  unfold cntF timesF
  rw [h1, h2, h3, h4, h5, h6]
theorem map_strip {α : Type} {k : Nat} {f : Tr → α} (hf : ∀ a b : Tr, a.strip k = b.strip k → f a = f b) {l m : List Tr} (h : l.map (Tr.strip k) = m.map (Tr.strip k)) : l.map f = m.map f := by
  induction l generalizing m with
  | nil => cases m with
    | nil => rfl
    | cons => simp at h
  | cons x r ih => cases m with
    | nil => simp at h
    | cons y s =>
      simp only [List.map_cons, List.cons.injEq] at h ⊢
      exact ⟨hf _ _ h.1, ih h.2⟩
theorem all_map (f : Tr → Bool) (l : List Tr) : l.all f = (l.map f).all id := by rw [List.all_map]; rfl
theorem formedS_congr : ∀ (k : Nat) (a b : Tr), a.strip k = b.strip k → formedS k a = formedS k b
  | 0, _, _, _ => rfl
  | k + 1, a, b, h => by
    obtain ⟨e1, e2, e3, e4, e5, e6, e7⟩ := strip_parts h
    show (ownF a && a.parts.all (formedS k)) = (ownF b && b.parts.all (formedS k))
    rw [ownF_congr e1 e2 e3 e4 e5 e6, all_map, all_map, map_strip (formedS_congr k) e7]
theorem sizeS_congr : ∀ (k : Nat) (a b : Tr), a.strip k = b.strip k → sizeS k a = sizeS k b
  | 0, _, _, _ => rfl
  | k + 1, a, b, h => by
    obtain ⟨e1, e2, e3, e4, e5, e6, e7⟩ := strip_parts h
    show cut1001 (_ + 1) = cut1001 (_ + 1)
    rw [map_strip (sizeS_congr k) e7, e1, e3, e4]
theorem deepS_congr : ∀ (k : Nat) (m : Int) (a b : Tr), a.strip k = b.strip k → deepS k m a = deepS k m b
  | 0, _, _, _, _ => rfl
  | k + 1, m, a, b, h => by
    obtain ⟨e1, e2, e3, e4, e5, e6, e7⟩ := strip_parts h
    show (if m < 1 then 1 else 1 + maxl (a.parts.map (deepS k (m - 1)))) = (if m < 1 then 1 else 1 + maxl (b.parts.map (deepS k (m - 1))))
    rw [map_strip (deepS_congr k (m - 1)) e7]
theorem turnKind_range (x : Int) : (0 ≤ turnKind x ∧ turnKind x ≤ 11) ↔ (0 ≤ x ∧ x ≤ 11) := by unfold turnKind; (repeat' split) <;> omega
theorem turnKind_low (x : Int) (h : turnKind x < 8 ∨ x < 8) : turnKind x = x := by unfold turnKind at h ⊢; (repeat' split) <;> (repeat' split at h) <;> omega
theorem turnKind_look (x : Int) : (turnKind x = 8 ∨ turnKind x = 9) ↔ (x = 8 ∨ x = 9) := by unfold turnKind; (repeat' split) <;> omega
theorem turnKind_is {x c : Int} (h : c < 8) : turnKind x = c ↔ x = c := by unfold turnKind; (repeat' split) <;> omega
theorem turn_kind (k : Nat) (t : Tr) : (turnS (k + 1) t).kind = turnKind t.kind := rfl
theorem turn_own (k : Nat) (t : Tr) : ownF (turnS (k + 1) t) = ownF t := by
  have hl : (turnS (k + 1) t).parts.length = t.parts.length := turnS_length k t
  have hk : (turnS (k + 1) t).kind = turnKind t.kind := rfl
  have i2 := turnKind_is (x := t.kind) (c := 2) (by omega)
  have i3 := turnKind_is (x := t.kind) (c := 3) (by omega)
  have i4 := turnKind_is (x := t.kind) (c := 4) (by omega)
  have i5 := turnKind_is (x := t.kind) (c := 5) (by omega)
  have i6 := turnKind_is (x := t.kind) (c := 6) (by omega)
  have i7 := turnKind_is (x := t.kind) (c := 7) (by omega)
  have il := turnKind_look t.kind
  have ir := turnKind_range t.kind
  have hc : cntF (turnS (k + 1) t) = cntF t := by
    unfold cntF
    rw [hl, hk]
    have q1 : (turnKind t.kind = 3 ∨ turnKind t.kind = 4 ∨ turnKind t.kind = 5) ↔ (t.kind = 3 ∨ t.kind = 4 ∨ t.kind = 5) := by rw [i3, i4, i5]
    have q2 : (turnKind t.kind = 6 ∨ turnKind t.kind = 7 ∨ turnKind t.kind = 8 ∨ turnKind t.kind = 9) ↔ (t.kind = 6 ∨ t.kind = 7 ∨ t.kind = 8 ∨ t.kind = 9) := by rw [i6, i7, il]
    simp only [q1, q2]
  unfold ownF
  rw [hc, hl, hk]
  have q3 : (turnKind t.kind = 8 ∨ turnKind t.kind = 9 ∨ (turnS (k + 1) t).neg = false) ↔ (t.kind = 8 ∨ t.kind = 9 ∨ t.neg = false) := by
    rw [← or_assoc, il, or_assoc]; exact Iff.rfl
  apply decide_eq_decide.2
  rw [ir, i2, q3, i7]
  exact Iff.rfl
theorem all_rev (f : Tr → Bool) (l : List Tr) : l.reverse.all f = l.all f := by simp
theorem turn_formed : ∀ (k : Nat) (t : Tr), formedS k (turnS k t) = formedS k t
  | 0, _ => rfl
  | k + 1, t => by
    show (ownF (turnS (k + 1) t) && (turnS (k + 1) t).parts.all (formedS k)) = (ownF t && t.parts.all (formedS k))
    rw [turn_own]
    congr 1
    have e : (t.parts.map (turnS k)).all (formedS k) = t.parts.all (formedS k) := by
      rw [List.all_map, Bool.eq_iff_iff, List.all_eq_true, List.all_eq_true]
      exact ⟨fun h p hp => by rw [← turn_formed k p]; exact h p hp, fun h p hp => by show formedS k (turnS k p) = true; rw [turn_formed k p]; exact h p hp⟩
    rw [turnS_parts]
    split
    · rw [all_rev, e]
    · exact e
theorem sumS_rev (l : List Int) (h : ∀ x ∈ l, 0 ≤ x) : sumS l.reverse = sumS l := by
  unfold sumS
  refine List.Perm.foldl_eq' (List.reverse_perm l) ?_ 0
  intro x hx y hy z
  have := h x (by simpa using hx)
  have := h y (by simpa using hy)
  unfold cut1001
  (repeat' split) <;> omega
theorem maxl_rev (l : List Int) : maxl l.reverse = maxl l := by
  unfold maxl
  refine List.Perm.foldl_eq' (List.reverse_perm l) ?_ 0
  intro x _ y _ z
  omega
theorem turn_size : ∀ (k : Nat) (t : Tr), sizeS k (turnS k t) = sizeS k t
  | 0, _ => rfl
  | k + 1, t => by
    have e : sumS ((turnS (k + 1) t).parts.map (sizeS k)) = sumS (t.parts.map (sizeS k)) := by
      have e1 : (t.parts.map (turnS k)).map (sizeS k) = t.parts.map (sizeS k) := by rw [List.map_map]; exact List.map_congr_left fun p _ => turn_size k p
      rw [turnS_parts]
      split
      · rw [List.map_reverse, e1]
        exact sumS_rev _ (fun x hx => by rw [List.mem_map] at hx; obtain ⟨p, _, rfl⟩ := hx; exact sizeS_ge k p)
      · rw [e1]
    show cut1001 ((if turnKind t.kind = 7 then sumS ((turnS (k + 1) t).parts.map (sizeS k)) * timesS t.lo t.hi else sumS ((turnS (k + 1) t).parts.map (sizeS k))) + 1) = cut1001 ((if t.kind = 7 then sumS (t.parts.map (sizeS k)) * timesS t.lo t.hi else sumS (t.parts.map (sizeS k))) + 1)
    rw [e]
    simp only [turnKind_is (show (7 : Int) < 8 by omega)]
theorem turn_deep : ∀ (k : Nat) (m : Int) (t : Tr), deepS k m (turnS k t) = deepS k m t
  | 0, _, _ => rfl
  | k + 1, m, t => by
    have e : maxl ((turnS (k + 1) t).parts.map (deepS k (m - 1))) = maxl (t.parts.map (deepS k (m - 1))) := by
      have e1 : (t.parts.map (turnS k)).map (deepS k (m - 1)) = t.parts.map (deepS k (m - 1)) := by rw [List.map_map]; exact List.map_congr_left fun p _ => turn_deep k (m - 1) p
      rw [turnS_parts]
      split
      · rw [List.map_reverse, e1, maxl_rev]
      · rw [e1]
    show (if m < 1 then 1 else 1 + maxl ((turnS (k + 1) t).parts.map (deepS k (m - 1)))) = (if m < 1 then 1 else 1 + maxl (t.parts.map (deepS k (m - 1))))
    rw [e]

end Go.Proofs.Ytcghclikkeajfaa

/- What a pattern turned round matches: backwards what the pattern does. No program is walked here. -/
namespace Go.Proofs.Ytcghclikkeajfaa
open Go.RowKit

abbrev Tbl := Nat → Nat → Bool
/-- Two tables of n places say the same. -/
def Eqv (n : Nat) (f g : Tbl) : Prop := ∀ i j, i < n → j < n → f i j = g i j
/-- A table seen from the other end. -/
def flipF (n : Nat) (f : Tbl) : Tbl := fun i j => f (n - 1 - j) (n - 1 - i)
theorem Eqv.refl (n : Nat) (f : Tbl) : Eqv n f f := fun _ _ _ _ => rfl
theorem Eqv.symm {n : Nat} {f g : Tbl} (h : Eqv n f g) : Eqv n g f := fun i j hi hj => (h i j hi hj).symm
theorem Eqv.trans {n : Nat} {f g h : Tbl} (a : Eqv n f g) (b : Eqv n g h) : Eqv n f h := fun i j hi hj => (a i j hi hj).trans (b i j hi hj)
theorem flip_congr {n : Nat} {f g : Tbl} (h : Eqv n f g) : Eqv n (flipF n f) (flipF n g) := fun i j hi hj => h _ _ (by omega) (by omega)
theorem flip_flip (n : Nat) (f : Tbl) : Eqv n (flipF n (flipF n f)) f := fun i j hi hj => by
  show f (n - 1 - (n - 1 - i)) (n - 1 - (n - 1 - j)) = f i j
  rw [show n - 1 - (n - 1 - i) = i by omega, show n - 1 - (n - 1 - j) = j by omega]

theorem then_iff (f g : Tbl) (n i j : Nat) : thenF f g n i j = true ↔ ∃ m, m < n ∧ i ≤ m ∧ m ≤ j ∧ f i m = true ∧ g m j = true := by
  unfold thenF thenPart
  rw [List.any_eq_true]
  constructor
  · rintro ⟨m, hm, h⟩
    rw [Bool.and_eq_true, Bool.and_eq_true, decide_eq_true_iff] at h
    exact ⟨m, List.mem_range.1 hm, h.1.1, h.1.2, h.2.1, h.2.2⟩
  · rintro ⟨m, hm, h1, h2, h3, h4⟩
    exact ⟨m, List.mem_range.2 hm, by rw [h3, h4, decide_eq_true ⟨h1, h2⟩]; rfl⟩
theorem bool_iff {a b : Bool} (h : a = true ↔ b = true) : a = b := by cases a <;> cases b <;> simp_all
theorem then_congr {n : Nat} {f f' g g' : Tbl} (hf : Eqv n f f') (hg : Eqv n g g') : Eqv n (thenF f g n) (thenF f' g' n) := fun i j hi hj => bool_iff (by
  rw [then_iff, then_iff]
  constructor
  · rintro ⟨m, h0, h1, h2, h3, h4⟩
    exact ⟨m, h0, h1, h2, by rw [← hf i m hi h0]; exact h3, by rw [← hg m j h0 hj]; exact h4⟩
  · rintro ⟨m, h0, h1, h2, h3, h4⟩
    exact ⟨m, h0, h1, h2, by rw [hf i m hi h0]; exact h3, by rw [hg m j h0 hj]; exact h4⟩)
theorem then_assoc (n : Nat) (f g h : Tbl) : Eqv n (thenF (thenF f g n) h n) (thenF f (thenF g h n) n) := fun i j hi hj => bool_iff (by
  rw [then_iff, then_iff]
  constructor
  · rintro ⟨k, k0, k1, k2, k3, k4⟩
    obtain ⟨m, m0, m1, m2, m3, m4⟩ := (then_iff _ _ _ _ _).1 k3
    exact ⟨m, m0, m1, by omega, m3, (then_iff _ _ _ _ _).2 ⟨k, k0, m2, k2, m4, k4⟩⟩
  · rintro ⟨m, m0, m1, m2, m3, m4⟩
    obtain ⟨k, k0, k1, k2, k3, k4⟩ := (then_iff _ _ _ _ _).1 m4
    exact ⟨k, k0, by omega, k2, (then_iff _ _ _ _ _).2 ⟨m, m0, m1, k1, m3, k3⟩, k4⟩)
theorem then_flip (n : Nat) (f g : Tbl) : Eqv n (flipF n (thenF f g n)) (thenF (flipF n g) (flipF n f) n) := fun i j hi hj => bool_iff (by
  show thenF f g n (n - 1 - j) (n - 1 - i) = true ↔ _
  rw [then_iff, then_iff]
  constructor
  · rintro ⟨m, m0, m1, m2, m3, m4⟩
    refine ⟨n - 1 - m, by omega, by omega, by omega, ?_, ?_⟩
    · show g (n - 1 - (n - 1 - m)) (n - 1 - i) = true
      rw [show n - 1 - (n - 1 - m) = m by omega]; exact m4
    · show f (n - 1 - j) (n - 1 - (n - 1 - m)) = true
      rw [show n - 1 - (n - 1 - m) = m by omega]; exact m3
  · rintro ⟨m, m0, m1, m2, m3, m4⟩
    exact ⟨n - 1 - m, by omega, by omega, by omega, m4, m3⟩)
theorem eqF_iff (i j : Nat) : eqF i j = true ↔ i = j := by unfold eqF; exact decide_eq_true_iff
/-- What 'eqF' does ahead and behind: nothing, but that only i ≤ j is left. -/
theorem eq_then_swap (n : Nat) (f : Tbl) : Eqv n (thenF eqF f n) (thenF f eqF n) := fun i j hi hj => bool_iff (by
  rw [then_iff, then_iff]
  constructor
  · rintro ⟨m, m0, m1, m2, m3, m4⟩
    obtain rfl := (eqF_iff _ _).1 m3
    exact ⟨j, hj, by omega, Nat.le_refl _, m4, (eqF_iff _ _).2 rfl⟩
  · rintro ⟨m, m0, m1, m2, m3, m4⟩
    obtain rfl := (eqF_iff _ _).1 m4
    exact ⟨i, hi, Nat.le_refl _, by omega, (eqF_iff _ _).2 rfl, m3⟩)
theorem eq_flip (n : Nat) : Eqv n (flipF n eqF) eqF := fun i j hi hj => bool_iff (by
  show eqF (n - 1 - j) (n - 1 - i) = true ↔ _
  rw [eqF_iff, eqF_iff]; omega)
/-- A list of tables, one behind the other. -/
def seqF (n : Nat) (fs : List Tbl) (f0 : Tbl) : Tbl := fs.foldl (fun f g => thenF f g n) f0
theorem seq_congr {n : Nat} : ∀ {fs gs : List Tbl} {f g : Tbl}, fs.length = gs.length → (∀ (j : Nat) (h : j < fs.length) (h' : j < gs.length), Eqv n fs[j] gs[j]) → Eqv n f g → Eqv n (seqF n fs f) (seqF n gs g)
  | [], [], _, _, _, _, h => h
  | [], _ :: _, _, _, e, _, _ => by simp at e
  | _ :: _, [], _, _, e, _, _ => by simp at e
  | x :: r, y :: s, _, _, e, h, h0 => seq_congr (fs := r) (gs := s) (by simpa using e) (fun j hj hj' => h (j + 1) (by simpa using hj) (by simpa using hj')) (then_congr h0 (h 0 (by simp) (by simp)))
theorem seq_front (n : Nat) : ∀ (fs : List Tbl) (f g : Tbl), Eqv n (seqF n fs (thenF f g n)) (thenF f (seqF n fs g) n)
  | [], f, g => Eqv.refl _ _
  | x :: r, f, g => by
    show Eqv n (seqF n r (thenF (thenF f g n) x n)) (thenF f (seqF n r (thenF g x n)) n)
    exact (seq_congr rfl (fun j _ _ => Eqv.refl _ _) (then_assoc n f g x)).trans (seq_front n r f (thenF g x n))
theorem seq_flip (n : Nat) : ∀ (fs : List Tbl), Eqv n (flipF n (seqF n fs eqF)) (seqF n (fs.map (flipF n)).reverse eqF)
  | [] => eq_flip n
  | x :: r => by
    have h1 : Eqv n (seqF n (x :: r) eqF) (thenF x (seqF n r eqF) n) := by
      show Eqv n (seqF n r (thenF eqF x n)) _
      exact (seq_congr rfl (fun j _ _ => Eqv.refl _ _) (eq_then_swap n x)).trans (seq_front n r x eqF)
    refine (flip_congr h1).trans ((then_flip n _ _).trans ?_)
    have e : seqF n ((x :: r).map (flipF n)).reverse eqF = thenF (seqF n (r.map (flipF n)).reverse eqF) (flipF n x) n := by
      unfold seqF
      rw [List.map_cons, List.reverse_cons, List.foldl_append]; rfl
    rw [e]
    exact then_congr (seq_flip n r) (Eqv.refl _ _)
theorem or_flip (n : Nat) (f g : Tbl) : flipF n (fun i j => f i j || g i j) = fun i j => flipF n f i j || flipF n g i j := rfl
theorem orl_congr {n : Nat} : ∀ {fs gs : List Tbl} {f g : Tbl}, fs.length = gs.length → (∀ (j : Nat) (h : j < fs.length) (h' : j < gs.length), Eqv n fs[j] gs[j]) → Eqv n f g → Eqv n (fs.foldl (fun f g i j => f i j || g i j) f) (gs.foldl (fun f g i j => f i j || g i j) g)
  | [], [], _, _, _, _, h => h
  | [], _ :: _, _, _, e, _, _ => by simp at e
  | _ :: _, [], _, _, e, _, _ => by simp at e
  | x :: r, y :: s, _, _, e, h, h0 => orl_congr (fs := r) (gs := s) (by simpa using e) (fun j hj hj' => h (j + 1) (by simpa using hj) (by simpa using hj')) (fun i j hi hj => by
      have hx : x i j = y i j := h 0 (by simp) (by simp) i j hi hj
      show (_ || x i j) = (_ || y i j); rw [h0 i j hi hj, hx])
theorem andl_congr {n : Nat} : ∀ {fs gs : List Tbl} {f g : Tbl}, fs.length = gs.length → (∀ (j : Nat) (h : j < fs.length) (h' : j < gs.length), Eqv n fs[j] gs[j]) → Eqv n f g → Eqv n (fs.foldl (fun f g i j => f i j && g i j) f) (gs.foldl (fun f g i j => f i j && g i j) g)
  | [], [], _, _, _, _, h => h
  | [], _ :: _, _, _, e, _, _ => by simp at e
  | _ :: _, [], _, _, e, _, _ => by simp at e
  | x :: r, y :: s, _, _, e, h, h0 => andl_congr (fs := r) (gs := s) (by simpa using e) (fun j hj hj' => h (j + 1) (by simpa using hj) (by simpa using hj')) (fun i j hi hj => by
      have hx : x i j = y i j := h 0 (by simp) (by simp) i j hi hj
      show (_ && x i j) = (_ && y i j); rw [h0 i j hi hj, hx])
theorem orl_flip (n : Nat) : ∀ (fs : List Tbl) (f : Tbl), flipF n (fs.foldl (fun f g i j => f i j || g i j) f) = (fs.map (flipF n)).foldl (fun f g i j => f i j || g i j) (flipF n f)
  | [], _ => rfl
  | x :: r, f => by rw [List.foldl_cons, orl_flip n r]; rfl
theorem andl_flip (n : Nat) : ∀ (fs : List Tbl) (f : Tbl), flipF n (fs.foldl (fun f g i j => f i j && g i j) f) = (fs.map (flipF n)).foldl (fun f g i j => f i j && g i j) (flipF n f)
  | [], _ => rfl
  | x :: r, f => by rw [List.foldl_cons, andl_flip n r]; rfl
theorem other_congr {n : Nat} {f g : Tbl} (h : Eqv n f g) : Eqv n (otherF f) (otherF g) := fun i j hi hj => by unfold otherF; rw [h i j hi hj]
theorem other_flip (n : Nat) (f : Tbl) : Eqv n (flipF n (otherF f)) (otherF (flipF n f)) := fun i j hi hj => by
  show (decide (n - 1 - j ≤ n - 1 - i) && !f (n - 1 - j) (n - 1 - i)) = (decide (i ≤ j) && !f (n - 1 - j) (n - 1 - i))
  congr 1
  exact decide_eq_decide.2 (by omega)
/- So many times. -/
theorem or_then_l (n : Nat) (f g h : Tbl) : Eqv n (thenF (fun i j => f i j || g i j) h n) (fun i j => thenF f h n i j || thenF g h n i j) := fun i j hi hj => bool_iff (by
  rw [Bool.or_eq_true, then_iff, then_iff, then_iff]
  constructor
  · rintro ⟨m, m0, m1, m2, m3, m4⟩
    rcases Bool.or_eq_true _ _ ▸ m3 with q | q
    · exact Or.inl ⟨m, m0, m1, m2, q, m4⟩
    · exact Or.inr ⟨m, m0, m1, m2, q, m4⟩
  · rintro (⟨m, m0, m1, m2, m3, m4⟩ | ⟨m, m0, m1, m2, m3, m4⟩)
    · exact ⟨m, m0, m1, m2, by show (f i m || g i m) = true; rw [m3]; rfl, m4⟩
    · exact ⟨m, m0, m1, m2, by show (f i m || g i m) = true; rw [m3, Bool.or_true], m4⟩)
theorem or_then_r (n : Nat) (f g h : Tbl) : Eqv n (thenF h (fun i j => f i j || g i j) n) (fun i j => thenF h f n i j || thenF h g n i j) := fun i j hi hj => bool_iff (by
  rw [Bool.or_eq_true, then_iff, then_iff, then_iff]
  constructor
  · rintro ⟨m, m0, m1, m2, m3, m4⟩
    rcases Bool.or_eq_true _ _ ▸ m4 with q | q
    · exact Or.inl ⟨m, m0, m1, m2, m3, q⟩
    · exact Or.inr ⟨m, m0, m1, m2, m3, q⟩
  · rintro (⟨m, m0, m1, m2, m3, m4⟩ | ⟨m, m0, m1, m2, m3, m4⟩)
    · exact ⟨m, m0, m1, m2, m3, by show (f m j || g m j) = true; rw [m4]; rfl⟩
    · exact ⟨m, m0, m1, m2, m3, by show (f m j || g m j) = true; rw [m4, Bool.or_true]⟩)
theorem or_congr {n : Nat} {f f' g g' : Tbl} (h : Eqv n f f') (h' : Eqv n g g') : Eqv n (fun i j => f i j || g i j) (fun i j => f' i j || g' i j) := fun i j hi hj => by
  show (_ || _) = (_ || _); rw [h i j hi hj, h' i j hi hj]
theorem pow_swap (n : Nat) (a : Tbl) : ∀ m, Eqv n (thenF (powF a n m) a n) (thenF a (powF a n m) n)
  | 0 => eq_then_swap n a
  | m + 1 => (then_congr (pow_swap n a m) (Eqv.refl _ _)).trans (then_assoc n a (powF a n m) a)
theorem any_swap (n : Nat) (a : Tbl) : ∀ m, Eqv n (thenF (anyTo a n m) a n) (thenF a (anyTo a n m) n)
  | 0 => eq_then_swap n a
  | m + 1 => by
    refine (or_then_l n _ _ _).trans (Eqv.trans ?_ (or_then_r n _ _ _).symm)
    exact or_congr (any_swap n a m) ((then_congr (any_swap n a m) (Eqv.refl _ _)).trans (then_assoc n a (anyTo a n m) a))
theorem pow_flip (n : Nat) (a : Tbl) : ∀ m, Eqv n (flipF n (powF a n m)) (powF (flipF n a) n m)
  | 0 => eq_flip n
  | m + 1 => (then_flip n _ _).trans ((then_congr (Eqv.refl _ _) (pow_flip n a m)).trans (pow_swap n (flipF n a) m).symm)
theorem any_flip (n : Nat) (a : Tbl) : ∀ m, Eqv n (flipF n (anyTo a n m)) (anyTo (flipF n a) n m)
  | 0 => eq_flip n
  | m + 1 => by
    show Eqv n (fun i j => flipF n (anyTo a n m) i j || flipF n (thenF (anyTo a n m) a n) i j) _
    refine or_congr (any_flip n a m) ?_
    exact (then_flip n _ _).trans ((then_congr (Eqv.refl _ _) (any_flip n a m)).trans (any_swap n (flipF n a) m).symm)
theorem pow_any_swap (n : Nat) (a : Tbl) (l : Nat) : ∀ m, Eqv n (thenF (powF a n l) (anyTo a n m) n) (thenF (anyTo a n m) (powF a n l) n)
  | 0 => (eq_then_swap n _).symm
  | m + 1 => by
    refine (or_then_r n _ _ _).trans (Eqv.trans ?_ (or_then_l n _ _ _).symm)
    refine or_congr (pow_any_swap n a l m) ?_
    refine (then_assoc n _ _ _).symm.trans ?_
    refine (then_congr (pow_any_swap n a l m) (Eqv.refl _ _)).trans ?_
    refine (then_assoc n _ _ _).trans ?_
    refine (then_congr (Eqv.refl _ _) (pow_swap n a l)).trans ?_
    exact (then_assoc n _ _ _).symm
theorem out_flip (n : Nat) (a : Tbl) (l : Nat) : ∀ m, Eqv n (flipF n (outF a n l m)) (outF (flipF n a) n l m)
  | 0 => pow_flip n a l
  | m + 1 => or_congr (out_flip n a l m) (pow_flip n a (l + (m + 1)))
theorem times_flip (n : Nat) (a : Tbl) (l : Nat) (hi : Int) : Eqv n (flipF n (timesT a n l hi)) (timesT (flipF n a) n l hi) := by
  unfold timesT
  by_cases h : hi < 0
  · rw [if_pos h, if_pos h]
    exact (then_flip n _ _).trans ((then_congr (any_flip n a n) (pow_flip n a l)).trans (pow_any_swap n (flipF n a) l n).symm)
  · rw [if_neg h, if_neg h]
    exact out_flip n a l _
theorem pow_congr {n : Nat} {f g : Tbl} (h : Eqv n f g) : ∀ m, Eqv n (powF f n m) (powF g n m)
  | 0 => Eqv.refl _ _
  | m + 1 => then_congr (pow_congr h m) h
theorem any_congr {n : Nat} {f g : Tbl} (h : Eqv n f g) : ∀ m, Eqv n (anyTo f n m) (anyTo g n m)
  | 0 => Eqv.refl _ _
  | m + 1 => or_congr (any_congr h m) (then_congr (any_congr h m) h)
theorem out_congr {n : Nat} {f g : Tbl} (h : Eqv n f g) (l : Nat) : ∀ m, Eqv n (outF f n l m) (outF g n l m)
  | 0 => pow_congr h l
  | m + 1 => or_congr (out_congr h l m) (pow_congr h _)
theorem times_congr {n : Nat} {f g : Tbl} (h : Eqv n f g) (l : Nat) (hi : Int) : Eqv n (timesT f n l hi) (timesT g n l hi) := by
  unfold timesT
  by_cases q : hi < 0
  · rw [if_pos q, if_pos q]; exact then_congr (pow_congr h l) (any_congr h n)
  · rw [if_neg q, if_neg q]; exact out_congr h l _
/- Looks. -/
theorem is_iff (f : Tbl) (back : Bool) (i n : Nat) : isTo f back i n = true ↔ ∃ k, k < n ∧ (bif back then f k i else f i k) = true := by
  unfold isTo; rw [List.any_eq_true]
  exact ⟨fun ⟨k, hk, h⟩ => ⟨k, List.mem_range.1 hk, h⟩, fun ⟨k, hk, h⟩ => ⟨k, List.mem_range.2 hk, h⟩⟩
theorem look_flip (n : Nat) (f : Tbl) (back neg : Bool) : Eqv n (flipF n (lookF f n back neg)) (lookF (flipF n f) n (!back) neg) := fun i j hi hj => by
  show lookF f n back neg (n - 1 - j) (n - 1 - i) = _
  unfold lookF
  by_cases e : i = j
  · subst e
    rw [if_pos rfl, if_pos rfl]
    have : isTo f back (n - 1 - i) n = isTo (flipF n f) (!back) i n := bool_iff (by
      rw [is_iff, is_iff]
      constructor
      · rintro ⟨k, hk, h⟩
        refine ⟨n - 1 - k, by omega, ?_⟩
        cases back
        · show f (n - 1 - i) (n - 1 - (n - 1 - k)) = true
          rw [show n - 1 - (n - 1 - k) = k by omega]; exact h
        · show f (n - 1 - (n - 1 - k)) (n - 1 - i) = true
          rw [show n - 1 - (n - 1 - k) = k by omega]; exact h
      · rintro ⟨k, hk, h⟩
        refine ⟨n - 1 - k, by omega, ?_⟩
        cases back
        · exact h
        · exact h)
    rw [this]
  · rw [if_neg (by omega), if_neg e]
theorem look_congr {n : Nat} {f g : Tbl} (h : Eqv n f g) (back neg : Bool) : Eqv n (lookF f n back neg) (lookF g n back neg) := fun i j hi hj => by
  unfold lookF
  by_cases e : i = j
  · subst e
    rw [if_pos rfl, if_pos rfl]
    have : isTo f back i n = isTo g back i n := bool_iff (by
      rw [is_iff, is_iff]
      constructor
      · rintro ⟨k, hk, q⟩
        refine ⟨k, hk, ?_⟩
        cases back
        · show g i k = true; rw [← h i k hi hk]; exact q
        · show g k i = true; rw [← h k i hk hi]; exact q
      · rintro ⟨k, hk, q⟩
        refine ⟨k, hk, ?_⟩
        cases back
        · show f i k = true; rw [h i k hi hk]; exact q
        · show f k i = true; rw [h k i hk hi]; exact q)
    rw [this]
  · rw [if_neg e, if_neg e]
/- Bytes and the two ends. -/
theorem rev_at (l : List Nat) (i : Nat) (h : i < l.length) : (l.reverse[i]?).getD 0 = (l[l.length - 1 - i]?).getD 0 := by
  rw [List.getElem?_eq_getElem (by simpa using h), List.getElem_reverse, List.getElem?_eq_getElem (by omega)]
theorem byte_flip (s : St) (l : List Nat) (n : Nat) (hn : n = l.length + 1) : Eqv n (byteF s l.reverse) (flipF n (byteF s l)) := fun i j hi hj => by
  show (decide (j = i + 1 ∧ i < l.reverse.length) && s.has ((l.reverse[i]?).getD 0)) = (decide (n - 1 - i = n - 1 - j + 1 ∧ n - 1 - j < l.length) && s.has ((l[n - 1 - j]?).getD 0))
  rw [List.length_reverse]
  by_cases e : j = i + 1 ∧ i < l.length
  · rw [decide_eq_true e, decide_eq_true (by omega), rev_at l i e.2, show n - 1 - j = l.length - 1 - i by omega]
  · rw [decide_eq_false e, decide_eq_false (by omega)]; rfl
theorem end_flip (l : List Nat) (n : Nat) (hn : n = l.length + 1) : Eqv n (endF l.reverse) (flipF n (beginF l)) := fun i j hi hj => by
  show (decide (i = j) && (decide (i = l.reverse.length) || decide ((l.reverse[i]?).getD 0 = 10))) = (decide (n - 1 - j = n - 1 - i) && (decide (n - 1 - j = 0) || decide ((l[n - 1 - j - 1]?).getD 0 = 10)))
  rw [List.length_reverse]
  by_cases e : i = j
  · subst e
    rw [decide_eq_true rfl, decide_eq_true rfl]
    by_cases q : i = l.length
    · rw [decide_eq_true q, decide_eq_true (p := n - 1 - i = 0) (by omega)]; rfl
    · rw [decide_eq_false q, decide_eq_false (p := n - 1 - i = 0) (by omega), rev_at l i (by omega), show n - 1 - i - 1 = l.length - 1 - i by omega]
  · rw [decide_eq_false e, decide_eq_false (p := n - 1 - j = n - 1 - i) (by omega)]; rfl
theorem begin_flip (l : List Nat) (n : Nat) (hn : n = l.length + 1) : Eqv n (beginF l.reverse) (flipF n (endF l)) := fun i j hi hj => by
  show (decide (i = j) && (decide (i = 0) || decide ((l.reverse[i - 1]?).getD 0 = 10))) = (decide (n - 1 - j = n - 1 - i) && (decide (n - 1 - j = l.length) || decide ((l[n - 1 - j]?).getD 0 = 10)))
  by_cases e : i = j
  · subst e
    rw [decide_eq_true rfl, decide_eq_true rfl]
    by_cases q : i = 0
    · rw [decide_eq_true q, decide_eq_true (p := n - 1 - i = l.length) (by omega)]; rfl
    · rw [decide_eq_false q, decide_eq_false (p := n - 1 - i = l.length) (by omega), rev_at l (i - 1) (by omega), show n - 1 - i = l.length - 1 - (i - 1) by omega]
  · rw [decide_eq_false e, decide_eq_false (p := n - 1 - j = n - 1 - i) (by omega)]; rfl

/-- The tables hang on the pattern, not on where it lies. -/
theorem spans_congr (l : List Nat) : ∀ (k : Nat) (a b : Tr), a.strip k = b.strip k → spansS l k a = spansS l k b
  | 0, _, _, _ => rfl
  | k + 1, a, b, h => by
    obtain ⟨e1, e2, e3, e4, e5, e6, e7⟩ := strip_parts h
    unfold spansS
    rw [map_strip (spans_congr l k) e7, e1, e2, e3, e4, e5]
theorem head_eqv {n : Nat} {fs gs : List Tbl} (h1 : fs.length = 1) (h2 : gs.length = 1) (h : Eqv n (fs[0]'(by omega)) (gs[0]'(by omega))) : Eqv n (fs.headD noF) (gs.headD noF) := by
  rw [headD_get fs (by omega), headD_get gs (by omega)]; exact h
theorem head_flip {n : Nat} {fs : List Tbl} (h1 : fs.length = 1) : (fs.map (flipF n)).headD noF = flipF n (fs.headD noF) := by
  cases fs with
  | nil => simp at h1
  | cons x r => rfl

/-- WHAT TURNING DOES: over the input backwards the turned pattern matches what the pattern does, seen from the other end. -/
theorem spans_turn (l : List Nat) : ∀ (k : Nat) (t : Tr), formedS k t = true → Eqv (l.length + 1) (spansS l.reverse k (turnS k t)) (flipF (l.length + 1) (spansS l k t))
  | 0, _, h => by cases h
  | k + 1, t, h => by
    obtain ⟨n, hn⟩ : ∃ n, n = l.length + 1 := ⟨_, rfl⟩
    have hnr : n = l.reverse.length + 1 := by rw [List.length_reverse]; exact hn
    rw [← hn]
    have hk : (turnS (k + 1) t).kind = turnKind t.kind := rfl
    have hset : (turnS (k + 1) t).set = t.set := rfl
    have hlo : (turnS (k + 1) t).lo = t.lo := rfl
    have hhi : (turnS (k + 1) t).hi = t.hi := rfl
    have hneg : (turnS (k + 1) t).neg = t.neg := rfl
    have ih : ∀ (j : Nat) (hj : j < t.parts.length), Eqv n (spansS l.reverse k (turnS k t.parts[j])) (flipF n (spansS l k t.parts[j])) := fun j hj => by
      rw [hn]; exact spans_turn l k t.parts[j] (formed_part h hj)
    have hr : 0 ≤ t.kind ∧ t.kind ≤ 11 := (of_decide_eq_true (formed_own h)).1
    have hmap : ((t.parts.map (turnS k)).map (spansS l.reverse k)).length = ((t.parts.map (spansS l k)).map (flipF n)).length := by simp
    have heach : ∀ (j : Nat) (h1 : j < ((t.parts.map (turnS k)).map (spansS l.reverse k)).length) (h2 : j < ((t.parts.map (spansS l k)).map (flipF n)).length), Eqv n ((t.parts.map (turnS k)).map (spansS l.reverse k))[j] ((t.parts.map (spansS l k)).map (flipF n))[j] := fun j h1 h2 => by
      have := ih j (by simpa using h1)
      simpa using this
    have hparts : ¬ t.kind = 3 → (turnS (k + 1) t).parts = t.parts.map (turnS k) := fun q => by rw [turnS_parts, if_neg q]
    have hlow : t.kind < 8 → turnKind t.kind = t.kind := fun q => turnKind_low _ (Or.inr q)
    by_cases h0 : t.kind = 0
    · rw [spans_0 (by rw [hk, hlow (by omega)]; exact h0) hnr, spans_0 h0 hn]; exact fun _ _ _ _ => rfl
    by_cases h1 : t.kind = 1
    · rw [spans_1 (by rw [hk, hlow (by omega)]; exact h1) hnr, spans_1 h1 hn]; exact (eq_flip n).symm
    by_cases h2 : t.kind = 2
    · rw [spans_2 (by rw [hk, hlow (by omega)]; exact h2) hnr, spans_2 h2 hn, hset]; exact byte_flip t.set l n hn
    by_cases h3 : t.kind = 3
    · rw [spans_3 (by rw [hk, hlow (by omega)]; exact h3) hnr, spans_3 h3 hn, turnS_parts, if_pos h3, List.map_reverse]
      refine Eqv.trans ?_ (seq_flip n (t.parts.map (spansS l k))).symm
      exact seq_congr (by simp) (fun j h1 h2 => by
        have h1' : j < t.parts.length := by simpa using h1
        have := heach (t.parts.length - 1 - j) (by simp; omega) (by simp; omega)
        simpa [List.getElem_reverse] using this) (Eqv.refl _ _)
    by_cases h4 : t.kind = 4
    · rw [spans_4 (by rw [hk, hlow (by omega)]; exact h4) hnr, spans_4 h4 hn, hparts h3, orl_flip]
      exact orl_congr hmap heach (fun _ _ _ _ => rfl)
    by_cases h5 : t.kind = 5
    · rw [spans_5 (by rw [hk, hlow (by omega)]; exact h5) hnr, spans_5 h5 hn, hparts h3, andl_flip]
      exact andl_congr hmap heach (other_flip n noF).symm
    have hone : t.kind = 6 ∨ t.kind = 7 ∨ t.kind = 8 ∨ t.kind = 9 → Eqv n (((turnS (k + 1) t).parts.map (spansS l.reverse k)).headD noF) (flipF n ((t.parts.map (spansS l k)).headD noF)) := fun q => by
      have hp1 := formed_one h q
      rw [hparts h3, ← head_flip (by rw [List.length_map]; exact hp1)]
      exact head_eqv (by simp [hp1]) (by simp [hp1]) (heach 0 (by simp [hp1]) (by simp [hp1]))
    by_cases h6 : t.kind = 6
    · rw [spans_6 (by rw [hk, hlow (by omega)]; exact h6) hnr, spans_6 h6 hn]
      exact (other_congr (hone (by omega))).trans (other_flip n _).symm
    by_cases h7 : t.kind = 7
    · rw [spans_7 (by rw [hk, hlow (by omega)]; exact h7) hnr, spans_7 h7 hn, hlo, hhi]
      exact (times_congr (hone (by omega)) _ _).trans (times_flip n _ _ _).symm
    by_cases h8 : t.kind = 8
    · rw [spans_9 (by rw [hk, h8]; rfl) hnr, spans_8 h8 hn, hneg]
      exact (look_congr (hone (by omega)) _ _).trans (look_flip n _ false _).symm
    by_cases h9 : t.kind = 9
    · rw [spans_8 (by rw [hk, h9]; rfl) hnr, spans_9 h9 hn, hneg]
      exact (look_congr (hone (by omega)) _ _).trans (look_flip n _ true _).symm
    by_cases h10 : t.kind = 10
    · rw [spans_11 (by rw [hk, h10]; rfl) hnr, spans_10 h10 hn]; exact end_flip l n hn
    · have h11 : t.kind = 11 := by omega
      rw [spans_10 (by rw [hk, h11]; rfl) hnr, spans_11 h11 hn]; exact begin_flip l n hn

end Go.Proofs.Ytcghclikkeajfaa

/- What turning nodes round does to their tables: mathematics; no program is named. -/
namespace Go.Proofs.Ytcghclikkeajfaa
open Go.RowKit
set_option linter.unusedSimpArgs false
set_option linter.unusedVariables false

theorem nodesF_prefix (l bits : List Nat) (ns : List Nd) (a j : Nat) (ha : a < j) : ∀ m, j ≤ m → (nodesF l bits ns m)[a]? = (nodesF l bits ns j)[a]?
  | 0, h => by omega
  | m + 1, h => by
    by_cases e : j = m + 1
    · rw [e]
    · show (nodesF l bits ns m ++ [_])[a]? = _
      rw [List.getElem?_append_left (by rw [nodesF_length]; omega)]
      exact nodesF_prefix l bits ns a j ha m (by omega)
theorem nodeF_congr (l bits : List Nat) {fs gs : List (Nat → Nat → Bool)} {x : Nd} (ha : (x.kind = 3 ∨ x.kind = 4 ∨ x.kind = 5) ∨ (x.kind = 6 ∨ x.kind = 7) → fAt fs x.a = fAt gs x.a) (hb : x.kind = 3 ∨ x.kind = 4 ∨ x.kind = 5 → fAt fs x.b = fAt gs x.b) : nodeF l bits fs x = nodeF l bits gs x := by
  unfold nodeF
  by_cases h1 : x.kind = 1
  · rw [if_pos h1, if_pos h1]
  rw [if_neg h1, if_neg h1]
  by_cases h2 : x.kind = 2
  · rw [if_pos h2, if_pos h2]
  rw [if_neg h2, if_neg h2]
  by_cases h3 : x.kind = 3
  · rw [if_pos h3, if_pos h3, ha (Or.inl (Or.inl h3)), hb (Or.inl h3)]
  rw [if_neg h3, if_neg h3]
  by_cases h4 : x.kind = 4
  · rw [if_pos h4, if_pos h4, ha (Or.inl (Or.inr (Or.inl h4))), hb (Or.inr (Or.inl h4))]
  rw [if_neg h4, if_neg h4]
  by_cases h5 : x.kind = 5
  · rw [if_pos h5, if_pos h5, ha (Or.inl (Or.inr (Or.inr h5))), hb (Or.inr (Or.inr h5))]
  rw [if_neg h5, if_neg h5]
  by_cases h6 : x.kind = 6
  · rw [if_pos h6, if_pos h6, ha (Or.inr (Or.inl h6))]
  rw [if_neg h6, if_neg h6]
  by_cases h7 : x.kind = 7
  · rw [if_pos h7, if_pos h7, ha (Or.inr (Or.inr h7))]
  rw [if_neg h7, if_neg h7]
/-- The table of a node. -/
def nodeT (l bits : List Nat) (ns : List Nd) (i : Int) : Nat → Nat → Bool := fAt (nodesF l bits ns ns.length) i
theorem fAt_prefix (l bits : List Nat) (ns : List Nd) (a : Int) (j : Nat) (h0 : 0 ≤ a) (h : a < j) (hj : j ≤ ns.length) : fAt (nodesF l bits ns j) a = nodeT l bits ns a := by
  unfold nodeT fAt
  rw [nodesF_prefix l bits ns a.toNat j (by omega) ns.length hj]
theorem nodeT_eq (l bits : List Nat) (ns : List Nd) (hok : ∀ j, j < ns.length → NdOk (ndAt ns j) j) (i : Nat) (hi : i < ns.length) : nodeT l bits ns i = nodeF l bits (nodesF l bits ns ns.length) (ndAt ns i) := by
  have h1 : nodeT l bits ns i = nodeF l bits (nodesF l bits ns i) (ndAt ns i) := by
    rw [← fAt_prefix l bits ns i (i + 1) (by omega) (by omega) (by omega)]
    unfold fAt
    rw [Int.toNat_natCast]
    show ((nodesF l bits ns i ++ [_])[i]?).getD noF = _
    rw [List.getElem?_append_right (by rw [nodesF_length]; omega), nodesF_length, Nat.sub_self]
    rfl
  rw [h1]
  have ho := hok i hi
  refine nodeF_congr l bits (fun h => ?_) (fun h => ?_)
  · have ha : 0 ≤ (ndAt ns i).a ∧ (ndAt ns i).a < i := by
      rcases h with h | h
      · exact ⟨(ho.2.1 h).1, (ho.2.1 h).2.1⟩
      · exact ho.2.2.1 h
    exact fAt_prefix l bits ns _ i ha.1 ha.2 (by omega)
  · have hb := (ho.2.1 h).2.2
    exact fAt_prefix l bits ns _ i hb.1 hb.2 (by omega)
theorem and_congr' {n : Nat} {f f' g g' : Tbl} (h : Eqv n f f') (h' : Eqv n g g') : Eqv n (fun i j => f i j && g i j) (fun i j => f' i j && g' i j) := fun i j hi hj => by
  show (f i j && g i j) = _
  rw [h i j hi hj, h' i j hi hj]
theorem bit_flip (bits : List Nat) (a : Nat) (neg : Bool) : Eqv bits.length (bitF bits.reverse a neg) (flipF bits.length (bitF bits a neg)) := fun i j hi hj => by
  unfold flipF bitF
  by_cases e : i = j
  · subst e
    rw [decide_eq_true rfl, decide_eq_true rfl, rev_at bits i hi]
  · rw [decide_eq_false e, decide_eq_false (show ¬ (bits.length - 1 - j = bits.length - 1 - i) by omega)]
    rfl
/-- x is the node i turned round, all the way down. -/
def TurnR (ns : List Nd) : Nat → Int → Int → Prop
  | 0, _, _ => False
  | f + 1, i, x => 0 ≤ i ∧ i < ns.length ∧ 0 ≤ x ∧ x < ns.length ∧ (let p := ndAt ns i.toNat; let q := ndAt ns x.toNat
    q.kind = p.kind ∧ (p.kind = 2 → q.set = p.set) ∧ (p.kind = 3 → TurnR ns f p.a q.b ∧ TurnR ns f p.b q.a) ∧ (p.kind = 4 ∨ p.kind = 5 → TurnR ns f p.a q.a ∧ TurnR ns f p.b q.b) ∧ (p.kind = 6 ∨ p.kind = 7 → TurnR ns f p.a q.a) ∧ (p.kind = 8 → q.a = p.a ∧ q.neg = p.neg))
theorem turn_tables (l bits : List Nat) (ns : List Nd) (hl : bits.length = l.length + 1) (hok : ∀ j, j < ns.length → NdOk (ndAt ns j) j) : ∀ (f : Nat) (i x : Int), TurnR ns f i x →
    Eqv (l.length + 1) (nodeT l.reverse bits.reverse ns x) (flipF (l.length + 1) (nodeT l bits ns i))
  | 0, _, _, h => h.elim
  | f + 1, i, x, h => by
    obtain ⟨i0, i1, x0, x1, hk, h2, h3, h45, h67, h8⟩ := h
    obtain ⟨i', rfl⟩ : ∃ i' : Nat, i = (i' : Int) := ⟨i.toNat, by omega⟩
    obtain ⟨x', rfl⟩ : ∃ x' : Nat, x = (x' : Int) := ⟨x.toNat, by omega⟩
    rw [Int.toNat_natCast] at hk h2 h3 h45 h67 h8
    rw [Int.toNat_natCast] at hk h2 h3 h45 h67 h8
    rw [nodeT_eq l.reverse bits.reverse ns hok x' (by omega), nodeT_eq l bits ns hok i' (by omega)]
    obtain ⟨p, hp⟩ : ∃ p, ndAt ns i' = p := ⟨_, rfl⟩
    obtain ⟨q, hq⟩ : ∃ q, ndAt ns x' = q := ⟨_, rfl⟩
    rw [hp, hq] at hk h2 h3 h45 h67 h8 ⊢
    unfold nodeF
    rw [List.length_reverse, hk]
    by_cases k1 : p.kind = 1
    · rw [if_pos k1, if_pos k1]; exact (eq_flip _).symm
    rw [if_neg k1, if_neg k1]
    by_cases k2 : p.kind = 2
    · rw [if_pos k2, if_pos k2, h2 k2]; exact byte_flip p.set l _ rfl
    rw [if_neg k2, if_neg k2]
    by_cases k3 : p.kind = 3
    · rw [if_pos k3, if_pos k3]
      obtain ⟨ha, hb⟩ := h3 k3
      exact (then_congr (turn_tables l bits ns hl hok f _ _ hb) (turn_tables l bits ns hl hok f _ _ ha)).trans (then_flip _ _ _).symm
    rw [if_neg k3, if_neg k3]
    by_cases k4 : p.kind = 4
    · rw [if_pos k4, if_pos k4]
      obtain ⟨ha, hb⟩ := h45 (Or.inl k4)
      exact or_congr (turn_tables l bits ns hl hok f _ _ ha) (turn_tables l bits ns hl hok f _ _ hb)
    rw [if_neg k4, if_neg k4]
    by_cases k5 : p.kind = 5
    · rw [if_pos k5, if_pos k5]
      obtain ⟨ha, hb⟩ := h45 (Or.inr k5)
      exact and_congr' (turn_tables l bits ns hl hok f _ _ ha) (turn_tables l bits ns hl hok f _ _ hb)
    rw [if_neg k5, if_neg k5]
    by_cases k6 : p.kind = 6
    · rw [if_pos k6, if_pos k6]
      exact (other_congr (turn_tables l bits ns hl hok f _ _ (h67 (Or.inl k6)))).trans (other_flip _ _).symm
    rw [if_neg k6, if_neg k6]
    by_cases k7 : p.kind = 7
    · rw [if_pos k7, if_pos k7]
      exact (any_congr (turn_tables l bits ns hl hok f _ _ (h67 (Or.inr k7))) _).trans (any_flip _ _ _).symm
    rw [if_neg k7, if_neg k7]
    by_cases k8 : p.kind = 8
    · rw [if_pos k8, if_pos k8, (h8 k8).1, (h8 k8).2]
      have hb := bit_flip bits p.a.toNat p.neg
      rw [hl] at hb
      exact hb
    rw [if_neg k8, if_neg k8]
    exact fun _ _ _ _ => rfl

end Go.Proofs.Ytcghclikkeajfaa
