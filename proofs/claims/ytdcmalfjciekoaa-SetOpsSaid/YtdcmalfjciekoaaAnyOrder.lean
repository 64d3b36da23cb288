/- A region that draws its order, walked by one relation between what has come up, the frame and the world: each operation is shown once to keep it. -/
import Derived.WalkKit
import Derived.RegionTactic
import Derived.Deep.RegionHeld3
namespace Go.Proofs.Ytdcmalfjciekoaa
open Go.RowKit

section
variable {P : Program} {ops : Array Oper} {Q : Exit → Act → World → Prop} {md : Region.Mode}

theorem count_set {l : List Bool} : ∀ {i : Nat}, l[i]? = some false → (l.set i true).count false + 1 = l.count false := by
  induction l with
  | nil => intro i h; simp at h
  | cons b r ih =>
    intro i h
    cases i with
    | zero =>
      simp at h
      subst h
      simp
    | succ i =>
      simp only [List.getElem?_cons_succ] at h
      have := ih h
      cases b
      · simp only [List.set_cons_succ, List.count_cons_self]
        omega
      · simp only [List.set_cons_succ]
        rw [List.count_cons_of_ne (by decide), List.count_cons_of_ne (by decide)]
        exact this

/-- 'd i': operation i has come up. -/
theorem wpAny_inv (I : (Nat → Bool) → Act → World → Prop)
    (before : ∀ (i : Nat) (o : Oper), ops[i]? = some o → ∀ e ∈ o.after, e.on < i)
    (step : ∀ (d : Nat → Bool) (i : Nat) (o : Oper) (a : Act) (w : World), ops[i]? = some o → d i = false → (∀ e ∈ o.after, Region.binds md e = true → d e.on = true) → I d a w →
      wpOp P ops Q i (fun a' w' => I (fun j => decide (j = i) || d j) a' w') a w)
    (fin : ∀ (d : Nat → Bool) (a : Act) (w : World), (∀ i, i < ops.size → d i = true) → I d a w → Q .normal a w) :
    ∀ (fuel : Nat) (listed : Array Bool) (a : Act) (w : World), listed.size = ops.size → listed.toList.count false ≤ fuel → I (fun j => listed.getD j false) a w → wpAny P md ops Q fuel listed a w := by
  have all : ∀ (listed : Array Bool), listed.size = ops.size → Region.ready md ops listed = [] → ∀ i, i < ops.size → listed.getD i false = true := by
    intro listed hs hr i
    induction i using Nat.strongRecOn with
    | _ i ih =>
      intro hi
      by_cases hb : listed.getD i false = true
      · exact hb
      · exfalso
        have hm : i ∈ Region.ready md ops listed := by
          rw [mem_ready]
          refine ⟨?_, ops[i], by simp [hi], fun e he _ => ih e.on (before i ops[i] (by simp [hi]) e he) (Nat.lt_trans (before i ops[i] (by simp [hi]) e he) hi)⟩
          have hl : i < listed.size := by omega
          simp [hl] at hb ⊢
          exact hb
        rw [hr] at hm
        cases hm
  intro fuel
  induction fuel with
  | zero =>
    intro listed a w hs hc hI
    have hr : Region.ready md ops listed = [] := by
      cases hq : Region.ready md ops listed with
      | nil => rfl
      | cons i r =>
        have hm : i ∈ Region.ready md ops listed := by rw [hq]; simp
        obtain ⟨h1, o, ho, _⟩ := mem_ready.1 hm
        have hi : i < ops.size := by
          rcases Nat.lt_or_ge i ops.size with h | h
          · exact h
          · rw [Array.getElem?_eq_none h] at ho; cases ho
        have hl : listed.toList[i]? = some false := by
          have : i < listed.size := by omega
          simp [this] at h1 ⊢
          exact h1
        have := count_set hl
        omega
    exact ⟨hr, fin _ a w (fun i hi => all listed hs hr i hi) hI⟩
  | succ fuel ih =>
    intro listed a w hs hc hI
    refine ⟨fun hr => fin _ a w (fun i hi => all listed hs hr i hi) hI, fun i hm => ?_⟩
    obtain ⟨h1, o, ho, hdep⟩ := mem_ready.1 hm
    have hi : i < ops.size := by
      rcases Nat.lt_or_ge i ops.size with h | h
      · exact h
      · rw [Array.getElem?_eq_none h] at ho; cases ho
    have hil : i < listed.size := by omega
    have h0 : listed.getD i false = false := by
      simp [hil] at h1 ⊢
      exact h1
    refine wpOp_mono (fun a' w' h' => ?_) (step _ i o a w ho h0 hdep hI)
    refine ih (listed.setIfInBounds i true) a' w' (by simpa using hs) ?_ ?_
    · have hl : listed.toList[i]? = some false := by
        simp [hil] at h1 ⊢
        exact h1
      have := count_set hl
      simp only [Array.toList_setIfInBounds]
      omega
    · have he : (fun j => (listed.setIfInBounds i true).getD j false) = fun j => decide (j = i) || listed.getD j false := by
        funext j
        by_cases hj : j = i
        · subst hj
          simp [hil]
        · simp [hj, Array.getElem?_setIfInBounds_ne (Ne.symm hj)]
      rw [he]
      exact h'

theorem wp_region_inv {id : Nat} {a : Act} {w : World} (hm : P.follows .mixedOrders = true) (I : (Nat → Bool) → Act → World → Prop)
    (before : ∀ (i : Nat) (o : Oper), ops[i]? = some o → ∀ e ∈ o.after, e.on < i)
    (start : I (fun _ => false) a w.drew)
    (step : ∀ (d : Nat → Bool) (i : Nat) (o : Oper) (a : Act) (w : World), ops[i]? = some o → d i = false → (∀ e ∈ o.after, Region.binds .any e = true → d e.on = true) → I d a w →
      wpOp P ops Q i (fun a' w' => I (fun j => decide (j = i) || d j) a' w') a w)
    (fin : ∀ (d : Nat → Bool) (a : Act) (w : World), (∀ i, i < ops.size → d i = true) → I d a w → Q .normal a w) : (Code.region id ops true).wp P Q a w := by
  refine wp_region_any hm (wpAny_inv I before step fin ops.size _ a w.drew (by simp) ?_ ?_)
  · simp
  · have he : (fun j => (Array.replicate ops.size false).getD j false) = fun _ => false := by
      funext j
      by_cases h : j < ops.size <;> simp [h]
    rw [he]
    exact start
end

/-- The edges of a region lead back: by a look at each. -/
def leadBack (ops : Array Oper) : Bool := (List.range ops.size).all fun i => match ops[i]? with | some o => o.after.all fun e => decide (e.on < i) | none => true
theorem leadBack_spec {ops : Array Oper} (h : leadBack ops = true) (i : Nat) (o : Oper) (ho : ops[i]? = some o) (e : Edge) (he : e ∈ o.after) : e.on < i := by
  have hi : i < ops.size := by
    rcases Nat.lt_or_ge i ops.size with h' | h'
    · exact h'
    · rw [Array.getElem?_eq_none h'] at ho; cases ho
  unfold leadBack at h
  rw [List.all_eq_true] at h
  have h1 := h i (by simpa using hi)
  rw [ho] at h1
  simp only [Array.all_eq_true'] at h1
  simpa using h1 e he

end Go.Proofs.Ytdcmalfjciekoaa
