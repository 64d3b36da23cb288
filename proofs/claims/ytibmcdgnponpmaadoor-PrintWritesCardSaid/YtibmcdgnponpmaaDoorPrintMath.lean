/- What is plain and formed is written, and how long its text may be. No program is walked here. -/
import Derived.Test.YtibmcdgnponpmaaDoorTextS
import Derived.Test.YtibmcdgnponpmaaDoorPlainS
import Derived.Test.YtibmcdgnponpmaaDoorMass
import Derived.Test.YtibmcdgnponpmaaDoorMa
namespace Go.Proofs.YtibmcdgnponpmaaDoor
open Go.RowKit
set_option linter.unusedSimpArgs false
set_option linter.unusedVariables false

theorem wrt_leaf (kd : Int) (h : kd = 1 ∨ kd = 2) : ∀ m, wrtS m (leafP kd)
  | 0 => trivial
  | m + 1 => ⟨⟨by show (1 : Int) ≤ kd; omega, by show kd ≤ 11; omega⟩, fun q => absurd q (by show ¬ (kd = 6 ∨ kd = 7 ∨ kd = 8 ∨ kd = 9); omega), fun q => absurd q (by show ¬ kd = 7; omega), fun p hp => absurd hp List.not_mem_nil⟩
theorem wrt_all : ∀ m, wrtS m allP
  | 0 => trivial
  | m + 1 => ⟨⟨by decide, by decide⟩, fun _ => rfl, fun q => absurd q (by decide), fun p hp => by
      obtain rfl : p = leafP 2 := by simpa [allP, Tr.parts] using hp
      exact wrt_leaf 2 (Or.inr rfl) m⟩
theorem ownF_of {k : Nat} {t : Tr} (h : formedS (k + 1) t = true) : ((0 ≤ t.kind ∧ t.kind ≤ 11) ∧ (t.parts.length : Int) = cntF t ∧ (t.kind = 7 → timesF t)) ∧ ∀ p ∈ t.parts, formedS k p = true := by
  have h' : (ownF t && t.parts.all (formedS k)) = true := h
  rw [Bool.and_eq_true] at h'
  have h1 := of_decide_eq_true h'.1
  exact ⟨⟨h1.1, h1.2.1, h1.2.2.2.2.2⟩, fun p hp => List.all_eq_true.1 h'.2 p hp⟩
/-- Which case of plainS it is. -/
theorem plain_cases (k : Nat) (t : Tr) {P : Tr → Prop} (h1 : ∀ p ∈ t.parts, P (plainS k p)) (h2 : P (leafP 2)) (h3 : P (leafP 1)) (h4 : P allP)
    (h5 : ¬ t.kind = 0 → P (.node t.kind t.set none t.parts.length 0 (t.parts.map (plainS k)) t.lo t.hi t.neg)) : P (plainS (k + 1) t) := by
  by_cases q1 : (t.kind = 3 ∨ t.kind = 4 ∨ t.kind = 5) ∧ t.parts.length = 1
  · rw [plain_one q1.1 q1.2]; exact h1 _ (List.getElem_mem _)
  · rw [plainS, if_neg q1]
    by_cases q2 : t.kind = 0 ∨ (t.kind = 4 ∧ t.parts.length = 0)
    · rw [if_pos q2]; exact h2
    · rw [if_neg q2]
      by_cases q3 : t.kind = 3 ∧ t.parts.length = 0
      · rw [if_pos q3]; exact h3
      · rw [if_neg q3]
        by_cases q4 : t.kind = 5 ∧ t.parts.length = 0
        · rw [if_pos q4]; exact h4
        · rw [if_neg q4]; exact h5 (fun q => q2 (Or.inl q))
theorem wrt_plain : ∀ (k : Nat) (t : Tr), formedS k t = true → ∀ m, wrtS m (plainS k t)
  | 0, _, h => by cases h
  | k + 1, t, h => fun m => by
    obtain ⟨⟨h0, h1, h2⟩, hp⟩ := ownF_of h
    refine plain_cases k t (P := fun x => wrtS m x) (fun p q => wrt_plain k p (hp p q) m) (wrt_leaf 2 (Or.inr rfl) m) (wrt_leaf 1 (Or.inl rfl) m) (wrt_all m) (fun hk => ?_)
    cases m with
    | zero => trivial
    | succ m =>
      refine ⟨⟨by show (1 : Int) ≤ t.kind; omega, h0.2⟩, fun q => ?_, h2, fun p q => ?_⟩
      · have q' : t.kind = 6 ∨ t.kind = 7 ∨ t.kind = 8 ∨ t.kind = 9 := q
        show (t.parts.map (plainS k)).length = 1
        rw [List.length_map]
        unfold cntF at h1
        rw [if_neg (by omega), if_pos q'] at h1
        omega
      · have q' : p ∈ t.parts.map (plainS k) := q
        obtain ⟨p', hp', rfl⟩ := List.mem_map.1 q'
        exact wrt_plain k p' (hp p' hp') m
theorem sum_le_two {α : Type} (f g : α → Nat) : ∀ (l : List α), (∀ p ∈ l, f p ≤ 2 * g p) → (l.map f).sum ≤ 2 * (l.map g).sum
  | [], _ => by simp
  | a :: l, h => by
    have h1 := h a List.mem_cons_self
    have h2 := sum_le_two f g l (fun p hp => h p (List.mem_cons_of_mem _ hp))
    rw [List.map_cons, List.map_cons, List.sum_cons, List.sum_cons]; omega
theorem mem_sum {α : Type} (f : α → Nat) : ∀ {l : List α} {p : α}, p ∈ l → f p ≤ (l.map f).sum
  | a :: l, p, h => by
    rw [List.map_cons, List.sum_cons]
    rcases List.mem_cons.1 h with rfl | h
    · omega
    · have := mem_sum f h; omega
theorem mass_leaf (kd : Int) : ∀ m, massS m (leafP kd) = 1
  | 0 => rfl
  | m + 1 => rfl
theorem mass_all : ∀ m, massS m allP ≤ 2
  | 0 => by decide
  | m + 1 => by show 1 + ([leafP 2].map (massS m)).sum ≤ 2; rw [List.map_cons, List.map_nil, List.sum_cons, List.sum_nil, mass_leaf]; omega
theorem mass_plain : ∀ (k : Nat) (t : Tr) (m : Nat), massS m (plainS k t) ≤ 2 * massS k t
  | 0, _, m => by
    have : massS m (plainS 0 Tr.blank) = 1 := by cases m <;> rfl
    show massS m Tr.blank ≤ 2 * 1
    have e : massS m Tr.blank = 1 := this
    omega
  | k + 1, t, m => by
    have hm := mass_pos (k + 1) t
    refine plain_cases k t (P := fun x => massS m x ≤ 2 * massS (k + 1) t) (fun p q => ?_) (by show massS m (leafP 2) ≤ _; rw [mass_leaf]; omega) (by show massS m (leafP 1) ≤ _; rw [mass_leaf]; omega) (by have := mass_all m; show massS m allP ≤ _; omega) (fun hk => ?_)
    · have h1 := mass_plain k p m
      have h2 := mem_sum (massS k) q
      show massS m (plainS k p) ≤ 2 * (1 + (t.parts.map (massS k)).sum)
      omega
    · cases m with
      | zero => show 1 ≤ _; omega
      | succ m =>
        show 1 + ((t.parts.map (plainS k)).map (massS m)).sum ≤ 2 * (1 + (t.parts.map (massS k)).sum)
        rw [List.map_map]
        have := sum_le_two (massS m ∘ plainS k) (massS k) t.parts (fun p _ => mass_plain k p m)
        omega
theorem tailT_room (k : Nat) (sep : ByteArray) (hs : sep.size ≤ 1) : ∀ (l : List Tr), (∀ p ∈ l, (textS k p).size + 10 ≤ 3020 * massS k p) → (tailT sep (l.map (textS k))).size ≤ 3020 * (l.map (massS k)).sum
  | [], _ => Nat.zero_le _
  | a :: l, h => by
    have h1 := h a List.mem_cons_self
    have h2 := tailT_room k sep hs l (fun p hp => h p (List.mem_cons_of_mem _ hp))
    rw [List.map_cons, List.map_cons, List.sum_cons, tailT, size_app, size_app, brkT_size]; omega
theorem rowT_room (k : Nat) (sep : ByteArray) (hs : sep.size ≤ 1) (l : List Tr) (h : ∀ p ∈ l, (textS k p).size + 10 ≤ 3020 * massS k p) : (rowT sep (l.map (textS k))).size ≤ 3020 * (l.map (massS k)).sum := by
  cases l with
  | nil => exact Nat.zero_le _
  | cons a l =>
    have h1 := h a List.mem_cons_self
    have h2 := tailT_room k sep hs l (fun p hp => h p (List.mem_cons_of_mem _ hp))
    rw [List.map_cons, List.map_cons, List.sum_cons, rowT, size_app, brkT_size]; omega
theorem bounds_size (lo hi : Int) : (boundsT lo hi).size ≤ 7 := by
  have h1 := digT_size (n := lo.toNat)
  have h2 := digT_size (n := hi.toNat)
  unfold boundsT
  split <;> (rw [size_app, size_app, size_app, size_app]; show 1 + _ + 1 + _ + 1 ≤ 7; first | omega | (show 1 + _ + 1 + 0 + 1 ≤ 7; omega))
theorem look_size (kd : Int) (neg : Bool) : (lookT kd neg).size ≤ 4 := by
  unfold lookT
  split <;> split <;> decide
theorem text_mass : ∀ (k : Nat) (t : Tr), (textS k t).size + 10 ≤ 3020 * massS k t
  | 0, _ => by show 0 + 10 ≤ 3020 * 1; omega
  | k + 1, t => by
    have hm : massS (k + 1) t = 1 + (t.parts.map (massS k)).sum := rfl
    rw [textS]
    split
    · show 2 + 10 ≤ _; omega
    · split
      · have := clsT_size t.set; omega
      · split
        · show 1 + 10 ≤ _; omega
        · split
          · show 1 + 10 ≤ _; omega
          · split
            · rw [size_app, size_app]
              have h1 := look_size t.kind t.neg
              have h2 : ((t.parts.map (textS k)).headD noT).size + 10 ≤ 3020 * (t.parts.map (massS k)).sum + 10 := by
                cases hp : t.parts with
                | nil => show 0 + 10 ≤ _; omega
                | cons a l =>
                  have := text_mass k a
                  rw [List.map_cons, List.map_cons, List.sum_cons]
                  show (textS k a).size + 10 ≤ _
                  omega
              show _ + _ + 1 + 10 ≤ _
              omega
            · rw [size_app, size_app]
              have h1 : (preT t.kind).size ≤ 1 := by unfold preT; split <;> decide
              have h2 : (sepT t.kind).size ≤ 1 := by unfold sepT; split; decide; split <;> decide
              have h3 := rowT_room k (sepT t.kind) h2 t.parts (fun p _ => text_mass k p)
              have h4 : (if t.kind = 7 then boundsT t.lo t.hi else noT).size ≤ 7 := by
                split
                · exact bounds_size _ _
                · exact Nat.zero_le _
              omega
/-- How long the text of a plain pattern may be. -/
theorem plain_text {k : Nat} {t : Tr} (h : massS k t ≤ 2000) (m : Nat) : (textS m (plainS k t)).size ≤ 12100000 := by
  have h1 := text_mass m (plainS k t)
  have h2 := mass_plain k t m
  omega

end Go.Proofs.YtibmcdgnponpmaaDoor
