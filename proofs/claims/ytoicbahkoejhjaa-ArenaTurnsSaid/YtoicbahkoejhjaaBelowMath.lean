/- Which nodes are below one: marking them from the top down finds them all. Mathematics; no program is named. -/
import Derived.Test.YtoicbahkoejhjaaNodeBelow
namespace Go.Proofs.Ytoicbahkoejhjaa
open Go.RowKit
set_option linter.unusedSimpArgs false
set_option linter.unusedVariables false

/-- Does the node name that number? -/
def kidB (x : Nd) (c : Nat) : Bool :=
  if x.kind = 3 ∨ x.kind = 4 ∨ x.kind = 5 then decide (x.a = (c : Int)) || decide (x.b = (c : Int))
  else if x.kind = 6 ∨ x.kind = 7 then decide (x.a = (c : Int)) else false
/-- What is marked behind t nodes, from id down. -/
def markTo (ns : List Nd) (id : Nat) : Nat → Nat → Bool
  | 0, k => decide (k = id)
  | t + 1, k => markTo ns id t k || (markTo ns id t (id - t) && kidB (ndAt ns (id - t)) k)
theorem mark_no {ns : List Nd} {id t : Nat} (h : markTo ns id t (id - t) = false) (k : Nat) : markTo ns id (t + 1) k = markTo ns id t k := by
  show (markTo ns id t k || (markTo ns id t (id - t) && _)) = _
  rw [h, Bool.false_and, Bool.or_false]
theorem mark_yes {ns : List Nd} {id t : Nat} (h : markTo ns id t (id - t) = true) (k : Nat) : markTo ns id (t + 1) k = (markTo ns id t k || kidB (ndAt ns (id - t)) k) := by
  show (markTo ns id t k || (markTo ns id t (id - t) && _)) = _
  rw [h, Bool.true_and]
inductive Rch (ns : List Nd) : Nat → Nat → Prop
  | here (i : Nat) : Rch ns i i
  | down {i c k : Nat} : kidB (ndAt ns i) c = true → Rch ns c k → Rch ns i k
theorem Rch.snoc {ns : List Nd} {i j k : Nat} (h : Rch ns i j) (hk : kidB (ndAt ns j) k = true) : Rch ns i k := by
  induction h with
  | here i => exact .down hk (.here k)
  | down h1 _ ih => exact .down h1 (ih hk)
theorem kid_lt {x : Nd} {j c : Nat} (ho : NdOk x j) (h : kidB x c = true) : c < j := by
  unfold kidB at h
  split at h
  · rename_i hk
    have hab := ho.2.1 hk
    rw [Bool.or_eq_true, decide_eq_true_eq, decide_eq_true_eq] at h
    omega
  · split at h
    · rename_i hk
      have ha := ho.2.2.1 hk
      rw [decide_eq_true_eq] at h
      omega
    · cases h
section
variable {ns : List Nd} (hok : ∀ j, j < ns.length → NdOk (ndAt ns j) j)
include hok
theorem Rch.le {i k : Nat} (h : Rch ns i k) : i < ns.length → k ≤ i := by
  induction h with
  | here i => exact fun _ => Nat.le_refl _
  | down h1 _ ih =>
    intro hi
    have := kid_lt (hok _ hi) h1
    have := ih (by omega)
    omega
theorem below_rch (k : Nat) : ∀ (f i : Nat), i < f → i < ns.length → (belowS ns k f i = true ↔ Rch ns i k)
  | 0, i, h, _ => absurd h (Nat.not_lt_zero _)
  | f + 1, i, hf, hi => by
    by_cases e : i = k
    · subst e
      exact ⟨fun _ => .here i, fun _ => below_self ns i f⟩
    · rw [below_step2 e rfl]
      have ho := hok i hi
      have hsplit : Rch ns i k ↔ ∃ c, kidB (ndAt ns i) c = true ∧ Rch ns c k := by
        constructor
        · intro h
          cases h with
          | here => exact absurd rfl e
          | down h1 h2 => exact ⟨_, h1, h2⟩
        · rintro ⟨c, h1, h2⟩
          exact .down h1 h2
      rw [hsplit]
      have part : ∀ q : Int, 0 ≤ q → q < i → ((decide ((k : Int) ≤ q) && belowS ns k f q) = true ↔ Rch ns q.toNat k) := by
        intro q h0 h1
        obtain ⟨c, rfl⟩ : ∃ c : Nat, q = (c : Int) := ⟨q.toNat, by omega⟩
        rw [Int.toNat_natCast, ← below_rch k f c (by omega) (by omega), Bool.and_eq_true, decide_eq_true_eq]
        constructor
        · exact fun h => h.2
        · intro h
          refine ⟨?_, h⟩
          have := Rch.le hok ((below_rch k f c (by omega) (by omega)).1 h) (by omega)
          omega
      by_cases k3 : (ndAt ns i).kind = 3 ∨ (ndAt ns i).kind = 4 ∨ (ndAt ns i).kind = 5
      · have hab := ho.2.1 k3
        rw [if_pos k3, Bool.or_eq_true, part _ hab.1 hab.2.1, part _ hab.2.2.1 hab.2.2.2]
        constructor
        · rintro (h | h)
          · exact ⟨_, by unfold kidB; rw [if_pos k3, Bool.or_eq_true, decide_eq_true_eq]; left; omega, h⟩
          · exact ⟨_, by unfold kidB; rw [if_pos k3, Bool.or_eq_true, decide_eq_true_eq, decide_eq_true_eq]; right; omega, h⟩
        · rintro ⟨c, h1, h2⟩
          unfold kidB at h1
          rw [if_pos k3, Bool.or_eq_true, decide_eq_true_eq, decide_eq_true_eq] at h1
          rcases h1 with h1 | h1
          · left; rw [h1, Int.toNat_natCast]; exact h2
          · right; rw [h1, Int.toNat_natCast]; exact h2
      · rw [if_neg k3]
        by_cases k6 : (ndAt ns i).kind = 6 ∨ (ndAt ns i).kind = 7
        · have ha := ho.2.2.1 k6
          rw [if_pos k6, part _ ha.1 ha.2]
          constructor
          · intro h
            exact ⟨_, by unfold kidB; rw [if_neg k3, if_pos k6, decide_eq_true_eq]; omega, h⟩
          · rintro ⟨c, h1, h2⟩
            unfold kidB at h1
            rw [if_neg k3, if_pos k6, decide_eq_true_eq] at h1
            rw [h1, Int.toNat_natCast]; exact h2
        · rw [if_neg k6]
          constructor
          · intro h; cases h
          · rintro ⟨c, h1, h2⟩
            unfold kidB at h1
            rw [if_neg k3, if_neg k6] at h1
            cases h1
omit hok in
theorem mark_rch {id : Nat} (hid : id < ns.length) : ∀ (t k : Nat), t ≤ id + 1 → markTo ns id t k = true → Rch ns id k
  | 0, k, _, h => by
    have : k = id := of_decide_eq_true h
    rw [this]; exact .here id
  | t + 1, k, ht, h => by
    have h : (markTo ns id t k || (markTo ns id t (id - t) && kidB (ndAt ns (id - t)) k)) = true := h
    rw [Bool.or_eq_true, Bool.and_eq_true] at h
    rcases h with h | ⟨h1, h2⟩
    · exact mark_rch hid t k (by omega) h
    · exact (mark_rch hid t _ (by omega) h1).snoc h2
omit hok in
theorem mark_mono {id : Nat} (k : Nat) : ∀ (t : Nat), markTo ns id t k = true → markTo ns id (t + 1) k = true := by
  intro t h
  show (markTo ns id t k || _) = true
  rw [h, Bool.true_or]
theorem mark_closed {id : Nat} (hid : id < ns.length) : ∀ (t : Nat), t ≤ id + 1 → ∀ j, id < j + t → j ≤ id → markTo ns id t j = true → ∀ c, kidB (ndAt ns j) c = true → markTo ns id t c = true
  | 0, _, j, h1, h2, _, _, _ => by omega
  | t + 1, ht, j, h1, h2, h3, c, hc => by
    have back : markTo ns id t j = true := by
      have h3 : (markTo ns id t j || (markTo ns id t (id - t) && kidB (ndAt ns (id - t)) j)) = true := h3
      rw [Bool.or_eq_true, Bool.and_eq_true] at h3
      rcases h3 with h | ⟨_, h⟩
      · exact h
      · have := kid_lt (hok (id - t) (by omega)) h
        omega
    by_cases e : j = id - t
    · show (markTo ns id t c || (markTo ns id t (id - t) && kidB (ndAt ns (id - t)) c)) = true
      rw [← e, back, hc]
      simp
    · exact mark_mono c t (mark_closed hid t (by omega) j (by omega) h2 back c hc)
theorem mark_all {id k : Nat} (hid : id < ns.length) (h : Rch ns id k) : markTo ns id (id + 1) k = true := by
  have : ∀ i, Rch ns i k → i ≤ id → markTo ns id (id + 1) i = true → markTo ns id (id + 1) k = true := by
    clear h
    intro i h
    induction h with
    | here i => exact fun _ h => h
    | down h1 _ ih =>
      intro hi hm
      have hc := kid_lt (hok _ (by omega)) h1
      exact ih (by omega) (mark_closed hok hid (id + 1) (Nat.le_refl _) _ (by omega) hi hm _ h1)
  refine this id h (Nat.le_refl _) ?_
  have up : ∀ t, markTo ns id t id = true := by
    intro t
    induction t with
    | zero => exact decide_eq_true rfl
    | succ t ih => exact mark_mono id t ih
  exact up _
/-- What is marked in the end is what is below. -/
theorem mark_below {id : Nat} (hid : id < ns.length) (k : Nat) : markTo ns id (id + 1) k = belowS ns k (id + 1) id := by
  have h1 := below_rch hok k (id + 1) id (Nat.lt_succ_self _) hid
  cases hb : belowS ns k (id + 1) id with
  | true => exact mark_all hok hid (h1.1 hb)
  | false =>
    cases hm : markTo ns id (id + 1) k with
    | false => rfl
    | true =>
      have := h1.2 (mark_rch hid _ _ (Nat.le_refl _) hm)
      rw [hb] at this; cases this
/-- What a node below names is below. -/
theorem below_kid {id j c : Nat} (hid : id < ns.length) (h : belowS ns j (id + 1) id = true) (hk : kidB (ndAt ns j) c = true) : belowS ns c (id + 1) id = true :=
  (below_rch hok c (id + 1) id (Nat.lt_succ_self _) hid).2 (((below_rch hok j (id + 1) id (Nat.lt_succ_self _) hid).1 h).snoc hk)
end

end Go.Proofs.Ytoicbahkoejhjaa
