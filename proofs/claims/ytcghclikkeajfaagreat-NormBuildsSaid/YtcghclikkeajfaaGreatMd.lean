/- Joined: TrSize, Strip, TurnSpans, NodeTurn. -/
import Derived.Test.YtcghclikkeajfaaGreatMa
import Derived.Test.YtcghclikkeajfaaGreatMb
import Derived.Test.YtcghclikkeajfaaGreatMK
/- How great a pattern is: by its parts, at most 1001. No program is named here. -/
namespace Go.Proofs.YtcghclikkeajfaaGreat
open Go.RowKit

def cut1001 (x : Int) : Int := if 1001 < x then 1001 else x
def sumS (l : List Int) : Int := l.foldl (fun n x => cut1001 (n + x)) 0
def cut2000 (x : Int) : Int := if 2000 < x then 2000 else x
/-- How many times a Times counts. -/
def timesLo (lo : Int) : Int := if 1 < lo then cut2000 lo else 1
def timesS (lo hi : Int) : Int := if timesLo lo < hi then cut2000 hi else timesLo lo
def sizeS : Nat → Tr → Int
  | 0, _ => 0
  | k + 1, t => cut1001 ((if t.kind = 7 then sumS (t.parts.map (sizeS k)) * timesS t.lo t.hi else sumS (t.parts.map (sizeS k))) + 1)
theorem cut1001_le (x : Int) : cut1001 x ≤ 1001 := by unfold cut1001; split <;> omega
theorem cut1001_ge (x : Int) (h : 0 ≤ x) : 0 ≤ cut1001 x := by unfold cut1001; split <;> omega
theorem sumS_snoc (l : List Int) (x : Int) : sumS (l ++ [x]) = cut1001 (sumS l + x) := by unfold sumS; rw [List.foldl_append]; rfl
theorem sumS_le (l : List Int) : sumS l ≤ 1001 := by
  unfold sumS
  have : ∀ a : Int, a ≤ 1001 → l.foldl (fun n x => cut1001 (n + x)) a ≤ 1001 := by
    induction l with
    | nil => exact fun a h => h
    | cons x r ih => intro a _; rw [List.foldl_cons]; exact ih _ (cut1001_le _)
  exact this 0 (by omega)
theorem sumS_ge (l : List Int) (h : ∀ x ∈ l, 0 ≤ x) : 0 ≤ sumS l := by
  unfold sumS
  have : ∀ a : Int, 0 ≤ a → 0 ≤ l.foldl (fun n x => cut1001 (n + x)) a := by
    induction l with
    | nil => exact fun a h => h
    | cons x r ih =>
      intro a ha
      rw [List.foldl_cons]
      exact ih (fun y hy => h y (List.mem_cons_of_mem _ hy)) _ (cut1001_ge _ (by have := h x (by simp); omega))
  exact this 0 (by omega)
theorem timesLo_ge (lo : Int) : 1 ≤ timesLo lo := by unfold timesLo cut2000; split <;> (try split) <;> omega
theorem timesLo_le (lo : Int) : timesLo lo ≤ 2000 := by unfold timesLo cut2000; split <;> (try split) <;> omega
theorem timesS_ge (lo hi : Int) : 1 ≤ timesS lo hi := by
  have := timesLo_ge lo
  unfold timesS cut2000; split <;> (try split) <;> omega
theorem timesS_le (lo hi : Int) : timesS lo hi ≤ 2000 := by
  have := timesLo_le lo
  unfold timesS cut2000; split <;> (try split) <;> omega
theorem sizeS_ge : ∀ (k : Nat) (t : Tr), 0 ≤ sizeS k t
  | 0, _ => Int.le_refl _
  | k + 1, t => by
    have h : 0 ≤ sumS (t.parts.map (sizeS k)) := sumS_ge _ (by
      intro x hx
      rw [List.mem_map] at hx
      obtain ⟨p, _, rfl⟩ := hx
      exact sizeS_ge k p)
    have ht := timesS_ge t.lo t.hi
    refine cut1001_ge _ ?_
    split
    · have := Int.mul_nonneg h (show (0 : Int) ≤ timesS t.lo t.hi by omega); omega
    · omega
theorem sizeS_le (k : Nat) (t : Tr) : sizeS k t ≤ 1001 := by
  cases k with
  | zero => show (0 : Int) ≤ 1001; omega
  | succ k => exact cut1001_le _
def sizeTo (k : Nat) (t : Tr) (j : Nat) : Int := sumS ((t.parts.take j).map (sizeS k))
theorem sizeTo_zero (k : Nat) (t : Tr) : sizeTo k t 0 = 0 := rfl
theorem sizeTo_succ (k : Nat) (t : Tr) (j : Nat) (h : j < t.parts.length) : sizeTo k t (j + 1) = cut1001 (sizeTo k t j + sizeS k t.parts[j]) := by
  unfold sizeTo; rw [List.take_succ_eq_append_getElem h, List.map_append, List.map_singleton, sumS_snoc]
theorem sizeTo_le (k : Nat) (t : Tr) (j : Nat) : sizeTo k t j ≤ 1001 := sumS_le _
theorem sizeTo_ge (k : Nat) (t : Tr) (j : Nat) : 0 ≤ sizeTo k t j := sumS_ge _ (by
  intro x hx
  rw [List.mem_map] at hx
  obtain ⟨p, _, rfl⟩ := hx
  exact sizeS_ge k p)
theorem sizeTo_times (k : Nat) (t : Tr) (h : t.kind = 7) : cut1001 (sizeTo k t t.parts.length * timesS t.lo t.hi + 1) = sizeS (k + 1) t := by
  unfold sizeTo; rw [List.take_length]; show _ = cut1001 (_ + 1); rw [if_pos h]
theorem sizeTo_plain (k : Nat) (t : Tr) (h : ¬ t.kind = 7) : cut1001 (sizeTo k t t.parts.length + 1) = sizeS (k + 1) t := by
  unfold sizeTo; rw [List.take_length]; show _ = cut1001 (_ + 1); rw [if_neg h]
theorem cut1001_yes {x : Int} (h : 1001 < x) : cut1001 x = 1001 := by unfold cut1001; rw [if_pos h]
theorem cut1001_no {x : Int} (h : ¬ 1001 < x) : cut1001 x = x := by unfold cut1001; rw [if_neg h]
theorem mul_bounds {x T : Int} (h0 : 0 ≤ x) (h1 : x ≤ 1001) (h2 : 1 ≤ T) (h3 : T ≤ 2000) : 0 ≤ x * T ∧ x * T ≤ 2002000 := by
  have a := Int.mul_nonneg h0 (show (0 : Int) ≤ T by omega)
  have b := Int.mul_le_mul h1 h3 (by omega) (by omega : (0 : Int) ≤ 1001)
  exact ⟨a, by omega⟩
theorem wrap_same {x : Int} (h : I64 x) : wrap64 x = x := by unfold wrap64; unfold I64 at h; omega
theorem ret_int {k : IntKind} {a b : Int} (h : a = b) : Ending.returned (.int k a) = .returned (.int k b) := by rw [h]

end Go.Proofs.YtcghclikkeajfaaGreat

/- Patterns without their addresses; patterns turned round; what stays the same. No program is named here. -/
namespace Go.Proofs.YtcghclikkeajfaaGreat
open Go.RowKit

def Tr.blank : Tr := .node 0 ⟨0, 0, 0, 0⟩ none 0 0 [] 0 0 false
/-- The pattern alone, wherever it lies. -/
def Tr.strip : Nat → Tr → Tr
  | 0, _ => Tr.blank
  | k + 1, t => .node t.kind t.set none t.parts.length 0 (t.parts.map (Tr.strip k)) t.lo t.hi t.neg
theorem strip_parts {k : Nat} {a b : Tr} (h : a.strip (k + 1) = b.strip (k + 1)) : a.kind = b.kind ∧ a.set = b.set ∧ a.lo = b.lo ∧ a.hi = b.hi ∧ a.neg = b.neg ∧ a.parts.length = b.parts.length ∧ a.parts.map (Tr.strip k) = b.parts.map (Tr.strip k) := by
  have h' : Tr.node a.kind a.set none a.parts.length 0 (a.parts.map (Tr.strip k)) a.lo a.hi a.neg = Tr.node b.kind b.set none b.parts.length 0 (b.parts.map (Tr.strip k)) b.lo b.hi b.neg := h
  injection h' with h1 h2 _ h4 _ h6 h7 h8 h9
  exact ⟨h1, h2, h7, h8, h9, h4, h6⟩
/- Alike. -/
theorem deep_part {k j : Nat} {m : Int} {t : Tr} (h : deepS (k + 1) m t ≤ m) (hj : j < t.parts.length) : 1 ≤ m ∧ deepS k (m - 1) t.parts[j] ≤ m - 1 := by
  have h' : (if m < 1 then 1 else 1 + maxl (t.parts.map (deepS k (m - 1)))) ≤ m := h
  have hm : 1 ≤ m := by split at h' <;> omega
  rw [if_neg (by omega)] at h'
  refine ⟨hm, ?_⟩
  have h1 : ∀ (l : List Int) (x : Int), x ∈ l → x ≤ maxl l := by
    intro l x hx
    unfold maxl
    have : ∀ (l : List Int) (a x : Int), (x ∈ l ∨ x ≤ a) → x ≤ l.foldl max a := by
      intro l
      induction l with
      | nil => intro a x h; rcases h with h | h; cases h; exact h
      | cons y r ih =>
        intro a x h
        rw [List.foldl_cons]
        refine ih _ _ ?_
        rcases h with h | h
        · rcases List.mem_cons.1 h with rfl | h
          · exact Or.inr (by omega)
          · exact Or.inl h
        · exact Or.inr (by omega)
    exact this l 0 x (Or.inl hx)
  have h2 := h1 (t.parts.map (deepS k (m - 1))) (deepS k (m - 1) t.parts[j]) (List.mem_map.2 ⟨_, List.getElem_mem hj, rfl⟩)
  omega
/- Formed, deep, great: no address has a say, and turning leaves them. -/
theorem ownF_congr {a b : Tr} (h1 : a.kind = b.kind) (h2 : a.set = b.set) (h3 : a.lo = b.lo) (h4 : a.hi = b.hi) (h5 : a.neg = b.neg) (h6 : a.parts.length = b.parts.length) : ownF a = ownF b := by
  unfold ownF
  apply decide_eq_decide.2
  unfold cntF timesF
  rw [h1, h2, h3, h4, h5, h6]
theorem map_strip {α : Type} {k : Nat} {f : Tr → α} (hf : ∀ a b : Tr, a.strip k = b.strip k → f a = f b) {l m : List Tr} (h : l.map (Tr.strip k) = m.map (Tr.strip k)) : l.map f = m.map f := by
  induction l generalizing m with
  | nil => cases m with
    | nil => rfl
    | cons => simp at h
  | cons x r ih => cases m with
    | nil => simp at h
    | cons y s =>
      simp only [List.map_cons, List.cons.injEq] at h ⊢
      exact ⟨hf _ _ h.1, ih h.2⟩
theorem all_map (f : Tr → Bool) (l : List Tr) : l.all f = (l.map f).all id := by rw [List.all_map]; rfl
theorem formedS_congr : ∀ (k : Nat) (a b : Tr), a.strip k = b.strip k → formedS k a = formedS k b
  | 0, _, _, _ => rfl
  | k + 1, a, b, h => by
    obtain ⟨e1, e2, e3, e4, e5, e6, e7⟩ := strip_parts h
    show (ownF a && a.parts.all (formedS k)) = (ownF b && b.parts.all (formedS k))
    rw [ownF_congr e1 e2 e3 e4 e5 e6, all_map, all_map, map_strip (formedS_congr k) e7]
theorem sizeS_congr : ∀ (k : Nat) (a b : Tr), a.strip k = b.strip k → sizeS k a = sizeS k b
  | 0, _, _, _ => rfl
  | k + 1, a, b, h => by
    obtain ⟨e1, e2, e3, e4, e5, e6, e7⟩ := strip_parts h
    show cut1001 (_ + 1) = cut1001 (_ + 1)
    rw [map_strip (sizeS_congr k) e7, e1, e3, e4]
end Go.Proofs.YtcghclikkeajfaaGreat

/- What a pattern turned round matches: backwards what the pattern does. No program is walked here. -/
namespace Go.Proofs.YtcghclikkeajfaaGreat
open Go.RowKit

abbrev Tbl := Nat → Nat → Bool
/-- Two tables of n places say the same. -/
def Eqv (n : Nat) (f g : Tbl) : Prop := ∀ i j, i < n → j < n → f i j = g i j
theorem Eqv.refl (n : Nat) (f : Tbl) : Eqv n f f := fun _ _ _ _ => rfl
theorem Eqv.symm {n : Nat} {f g : Tbl} (h : Eqv n f g) : Eqv n g f := fun i j hi hj => (h i j hi hj).symm
theorem Eqv.trans {n : Nat} {f g h : Tbl} (a : Eqv n f g) (b : Eqv n g h) : Eqv n f h := fun i j hi hj => (a i j hi hj).trans (b i j hi hj)
theorem then_iff (f g : Tbl) (n i j : Nat) : thenF f g n i j = true ↔ ∃ m, m < n ∧ i ≤ m ∧ m ≤ j ∧ f i m = true ∧ g m j = true := by
  unfold thenF thenPart
  rw [List.any_eq_true]
  constructor
  · rintro ⟨m, hm, h⟩
    rw [Bool.and_eq_true, Bool.and_eq_true, decide_eq_true_iff] at h
    exact ⟨m, List.mem_range.1 hm, h.1.1, h.1.2, h.2.1, h.2.2⟩
  · rintro ⟨m, hm, h1, h2, h3, h4⟩
    exact ⟨m, List.mem_range.2 hm, by rw [h3, h4, decide_eq_true ⟨h1, h2⟩]; rfl⟩
theorem bool_iff {a b : Bool} (h : a = true ↔ b = true) : a = b := by cases a <;> cases b <;> simp_all
theorem then_congr {n : Nat} {f f' g g' : Tbl} (hf : Eqv n f f') (hg : Eqv n g g') : Eqv n (thenF f g n) (thenF f' g' n) := fun i j hi hj => bool_iff (by
  rw [then_iff, then_iff]
  constructor
  · rintro ⟨m, h0, h1, h2, h3, h4⟩
    exact ⟨m, h0, h1, h2, by rw [← hf i m hi h0]; exact h3, by rw [← hg m j h0 hj]; exact h4⟩
  · rintro ⟨m, h0, h1, h2, h3, h4⟩
    exact ⟨m, h0, h1, h2, by rw [hf i m hi h0]; exact h3, by rw [hg m j h0 hj]; exact h4⟩)
theorem then_assoc (n : Nat) (f g h : Tbl) : Eqv n (thenF (thenF f g n) h n) (thenF f (thenF g h n) n) := fun i j hi hj => bool_iff (by
  rw [then_iff, then_iff]
  constructor
  · rintro ⟨k, k0, k1, k2, k3, k4⟩
    obtain ⟨m, m0, m1, m2, m3, m4⟩ := (then_iff _ _ _ _ _).1 k3
    exact ⟨m, m0, m1, by omega, m3, (then_iff _ _ _ _ _).2 ⟨k, k0, m2, k2, m4, k4⟩⟩
  · rintro ⟨m, m0, m1, m2, m3, m4⟩
    obtain ⟨k, k0, k1, k2, k3, k4⟩ := (then_iff _ _ _ _ _).1 m4
    exact ⟨k, k0, by omega, k2, (then_iff _ _ _ _ _).2 ⟨m, m0, m1, k1, m3, k3⟩, k4⟩)
theorem eqF_iff (i j : Nat) : eqF i j = true ↔ i = j := by unfold eqF; exact decide_eq_true_iff
/-- What 'eqF' does ahead and behind: nothing, but that only i ≤ j is left. -/
theorem eq_then_swap (n : Nat) (f : Tbl) : Eqv n (thenF eqF f n) (thenF f eqF n) := fun i j hi hj => bool_iff (by
  rw [then_iff, then_iff]
  constructor
  · rintro ⟨m, m0, m1, m2, m3, m4⟩
    obtain rfl := (eqF_iff _ _).1 m3
    exact ⟨j, hj, by omega, Nat.le_refl _, m4, (eqF_iff _ _).2 rfl⟩
  · rintro ⟨m, m0, m1, m2, m3, m4⟩
    obtain rfl := (eqF_iff _ _).1 m4
    exact ⟨i, hi, Nat.le_refl _, by omega, (eqF_iff _ _).2 rfl, m3⟩)
/- So many times. -/
theorem or_congr {n : Nat} {f f' g g' : Tbl} (h : Eqv n f f') (h' : Eqv n g g') : Eqv n (fun i j => f i j || g i j) (fun i j => f' i j || g' i j) := fun i j hi hj => by
  show (_ || _) = (_ || _); rw [h i j hi hj, h' i j hi hj]
theorem any_congr {n : Nat} {f g : Tbl} (h : Eqv n f g) : ∀ m, Eqv n (anyTo f n m) (anyTo g n m)
  | 0 => Eqv.refl _ _
  | m + 1 => or_congr (any_congr h m) (then_congr (any_congr h m) h)
/- Looks. -/
/- Bytes and the two ends. -/
/-- The tables hang on the pattern, not on where it lies. -/
theorem spans_congr (l : List Nat) : ∀ (k : Nat) (a b : Tr), a.strip k = b.strip k → spansS l k a = spansS l k b
  | 0, _, _, _ => rfl
  | k + 1, a, b, h => by
    obtain ⟨e1, e2, e3, e4, e5, e6, e7⟩ := strip_parts h
    unfold spansS
    rw [map_strip (spans_congr l k) e7, e1, e2, e3, e4, e5]
end Go.Proofs.YtcghclikkeajfaaGreat

/- What turning nodes round does to their tables: mathematics; no program is named. -/
namespace Go.Proofs.YtcghclikkeajfaaGreat
open Go.RowKit
set_option linter.unusedSimpArgs false
set_option linter.unusedVariables false

theorem nodesF_prefix (l bits : List Nat) (ns : List Nd) (a j : Nat) (ha : a < j) : ∀ m, j ≤ m → (nodesF l bits ns m)[a]? = (nodesF l bits ns j)[a]?
  | 0, h => by omega
  | m + 1, h => by
    by_cases e : j = m + 1
    · rw [e]
    · show (nodesF l bits ns m ++ [_])[a]? = _
      rw [List.getElem?_append_left (by rw [nodesF_length]; omega)]
      exact nodesF_prefix l bits ns a j ha m (by omega)
theorem nodeF_congr (l bits : List Nat) {fs gs : List (Nat → Nat → Bool)} {x : Nd} (ha : (x.kind = 3 ∨ x.kind = 4 ∨ x.kind = 5) ∨ (x.kind = 6 ∨ x.kind = 7) → fAt fs x.a = fAt gs x.a) (hb : x.kind = 3 ∨ x.kind = 4 ∨ x.kind = 5 → fAt fs x.b = fAt gs x.b) : nodeF l bits fs x = nodeF l bits gs x := by
  unfold nodeF
  by_cases h1 : x.kind = 1
  · rw [if_pos h1, if_pos h1]
  rw [if_neg h1, if_neg h1]
  by_cases h2 : x.kind = 2
  · rw [if_pos h2, if_pos h2]
  rw [if_neg h2, if_neg h2]
  by_cases h3 : x.kind = 3
  · rw [if_pos h3, if_pos h3, ha (Or.inl (Or.inl h3)), hb (Or.inl h3)]
  rw [if_neg h3, if_neg h3]
  by_cases h4 : x.kind = 4
  · rw [if_pos h4, if_pos h4, ha (Or.inl (Or.inr (Or.inl h4))), hb (Or.inr (Or.inl h4))]
  rw [if_neg h4, if_neg h4]
  by_cases h5 : x.kind = 5
  · rw [if_pos h5, if_pos h5, ha (Or.inl (Or.inr (Or.inr h5))), hb (Or.inr (Or.inr h5))]
  rw [if_neg h5, if_neg h5]
  by_cases h6 : x.kind = 6
  · rw [if_pos h6, if_pos h6, ha (Or.inr (Or.inl h6))]
  rw [if_neg h6, if_neg h6]
  by_cases h7 : x.kind = 7
  · rw [if_pos h7, if_pos h7, ha (Or.inr (Or.inr h7))]
  rw [if_neg h7, if_neg h7]
/-- The table of a node. -/
def nodeT (l bits : List Nat) (ns : List Nd) (i : Int) : Nat → Nat → Bool := fAt (nodesF l bits ns ns.length) i
theorem fAt_prefix (l bits : List Nat) (ns : List Nd) (a : Int) (j : Nat) (h0 : 0 ≤ a) (h : a < j) (hj : j ≤ ns.length) : fAt (nodesF l bits ns j) a = nodeT l bits ns a := by
  unfold nodeT fAt
  rw [nodesF_prefix l bits ns a.toNat j (by omega) ns.length hj]
theorem nodeT_eq (l bits : List Nat) (ns : List Nd) (hok : ∀ j, j < ns.length → NdOk (ndAt ns j) j) (i : Nat) (hi : i < ns.length) : nodeT l bits ns i = nodeF l bits (nodesF l bits ns ns.length) (ndAt ns i) := by
  have h1 : nodeT l bits ns i = nodeF l bits (nodesF l bits ns i) (ndAt ns i) := by
    rw [← fAt_prefix l bits ns i (i + 1) (by omega) (by omega) (by omega)]
    unfold fAt
    rw [Int.toNat_natCast]
    show ((nodesF l bits ns i ++ [_])[i]?).getD noF = _
    rw [List.getElem?_append_right (by rw [nodesF_length]; omega), nodesF_length, Nat.sub_self]
    rfl
  rw [h1]
  have ho := hok i hi
  refine nodeF_congr l bits (fun h => ?_) (fun h => ?_)
  · have ha : 0 ≤ (ndAt ns i).a ∧ (ndAt ns i).a < i := by
      rcases h with h | h
      · exact ⟨(ho.2.1 h).1, (ho.2.1 h).2.1⟩
      · exact ho.2.2.1 h
    exact fAt_prefix l bits ns _ i ha.1 ha.2 (by omega)
  · have hb := (ho.2.1 h).2.2
    exact fAt_prefix l bits ns _ i hb.1 hb.2 (by omega)
end Go.Proofs.YtcghclikkeajfaaGreat
