/- package formula: mathematics: the least of sorted parts. No program is walked here. -/
import Derived.Test.YtehokjaojanieaaFoD
namespace Go.Proofs.Ytehokjaojanieaa
open Go.RowKit
set_option linter.unusedVariables false
set_option linter.unusedSimpArgs false

/-- i parts have been looked at; ks are kept; they are at most len long, and just the first sh of them are shorter. -/
structure KInv (ys ks : List Pt) (i len sh : Nat) : Prop where
  le : ks.length ≤ i
  sub : ks.Sublist (ys.take i)
  anti : ∀ a ∈ ks, ∀ b ∈ ks, (∀ x ∈ a.l, x ∈ b.l) → a.l = b.l
  cov : ∀ x ∈ ys.take i, ∃ p ∈ ks, ∀ z ∈ p.l, z ∈ x.l
  top : ∀ x ∈ ys.take i, x.l.length ≤ len
  hit : len = 0 ∨ ∃ x ∈ ys.take i, x.l.length = len
  shle : sh ≤ ks.length
  low : ∀ j (h : j < ks.length), j < sh → ks[j].l.length < len
  high : ∀ j (h : j < ks.length), sh ≤ j → ks[j].l.length = len
/-- Parts by their order, each once, whose numbers rise. -/
structure Srt (ys : List Pt) : Prop where
  srt : ys.Pairwise (fun a b => lessS a.l b.l = true)
  up : ∀ x ∈ ys, Up x.l
theorem KInv.start (ys : List Pt) : KInv ys [] 0 0 0 :=
  ⟨Nat.le_refl _, by simp, (fun a ha => by cases ha), (fun x hx => by simp at hx), (fun x hx => by simp at hx), .inl rfl, Nat.le_refl _, (fun j h => absurd h (Nat.not_lt_zero _)), (fun j h => absurd h (Nat.not_lt_zero _))⟩
section
variable {ys ks : List Pt} {i len sh : Nat}
theorem Srt.ahead (h : Srt ys) (hi : i < ys.length) {x : Pt} (hx : x ∈ ys.take i) : lessS x.l ys[i].l = true := by
  obtain ⟨j, hj, rfl⟩ := List.mem_iff_getElem.1 hx
  rw [List.getElem_take]
  have hj' : j < i := by rw [List.length_take] at hj; omega
  exact List.pairwise_iff_getElem.1 h.srt j i (by omega) hi hj'
theorem KInv.len_le (h : KInv ys ks i len sh) (hs : Srt ys) (hi : i < ys.length) : len ≤ ys[i].l.length := by
  rcases h.hit with e | ⟨x, hx, e⟩
  · omega
  · have := less_len (hs.ahead hi hx); omega
/-- The length goes up: all that are kept are shorter. -/
theorem KInv.longer (h : KInv ys ks i len sh) (hs : Srt ys) (hi : i < ys.length) (hl : len < ys[i].l.length) :
    (∀ j (hj : j < ks.length), j < ks.length → ks[j].l.length < ys[i].l.length) ∧ (∀ j (hj : j < ks.length), ks.length ≤ j → ks[j].l.length = ys[i].l.length) :=
  ⟨fun j hj _ => Nat.lt_of_le_of_lt (h.top _ (h.sub.subset (List.getElem_mem hj))) hl, fun j hj h => by omega⟩
/-- What holds once the length is that of the part that is looked at. -/
structure KAt (ys ks : List Pt) (i sh : Nat) (hi : i < ys.length) : Prop where
  le : ks.length ≤ i
  sub : ks.Sublist (ys.take i)
  anti : ∀ a ∈ ks, ∀ b ∈ ks, (∀ x ∈ a.l, x ∈ b.l) → a.l = b.l
  cov : ∀ x ∈ ys.take i, ∃ p ∈ ks, ∀ z ∈ p.l, z ∈ x.l
  shle : sh ≤ ks.length
  low : ∀ j (h : j < ks.length), j < sh → ks[j].l.length < ys[i].l.length
  high : ∀ j (h : j < ks.length), sh ≤ j → ks[j].l.length = ys[i].l.length
theorem KInv.up (h : KInv ys ks i len sh) (hs : Srt ys) (hi : i < ys.length) (hl : len < ys[i].l.length) : KAt ys ks i ks.length hi :=
  ⟨h.le, h.sub, h.anti, h.cov, Nat.le_refl _, (h.longer hs hi hl).1, (h.longer hs hi hl).2⟩
theorem KInv.stay (h : KInv ys ks i len sh) (hs : Srt ys) (hi : i < ys.length) (hl : ¬ len < ys[i].l.length) : KAt ys ks i sh hi ∧ len = ys[i].l.length := by
  have e : len = ys[i].l.length := by have := h.len_le hs hi; omega
  exact ⟨⟨h.le, h.sub, h.anti, h.cov, h.shle, by rw [← e]; exact h.low, by rw [← e]; exact h.high⟩, e⟩
theorem KAt.any {hi : i < ys.length} (h : KAt ys ks i sh hi) (hs : Srt ys) : (ks.take sh).any (fun q => subS q.l ys[i].l) = ks.any (fun q => subS q.l ys[i].l) := by
  rw [Bool.eq_iff_iff, List.any_eq_true, List.any_eq_true]
  constructor
  · rintro ⟨q, hq, e⟩; exact ⟨q, List.mem_of_mem_take hq, e⟩
  · rintro ⟨q, hq, e⟩
    obtain ⟨j, hj, rfl⟩ := List.mem_iff_getElem.1 hq
    by_cases hjs : j < sh
    · exact ⟨_, List.mem_iff_getElem.2 ⟨j, by rw [List.length_take]; omega, List.getElem_take⟩, e⟩
    · exfalso
      have h1 := h.high j hj (by omega)
      have h2 := hs.ahead hi (h.sub.subset (List.getElem_mem hj))
      have h3 : ks[j].l = ys[i].l := by
        have hm := List.mem_of_mem_take (h.sub.subset (List.getElem_mem hj))
        exact up_len (hs.up _ hm) (hs.up _ (List.getElem_mem hi)) (sub_iff.1 e) (by omega)
      rw [h3, less_irr] at h2
      cases h2
theorem take_up (hi : i < ys.length) : ys.take (i + 1) = ys.take i ++ [ys[i]] := take_step ys i hi
theorem mem_up {x : Pt} (hi : i < ys.length) : x ∈ ys.take (i + 1) ↔ x ∈ ys.take i ∨ x = ys[i] := by rw [take_up hi, List.mem_append, List.mem_singleton]
theorem KAt.top {hi : i < ys.length} (hs : Srt ys) {x : Pt} (hx : x ∈ ys.take (i + 1)) : x.l.length ≤ ys[i].l.length := by
  rcases (mem_up hi).1 hx with h | rfl
  · exact less_len (hs.ahead hi h)
  · exact Nat.le_refl _
/-- A part within which another one lies is dropped. -/
theorem KAt.drop {hi : i < ys.length} (h : KAt ys ks i sh hi) (hs : Srt ys) (ha : (ks.take sh).any (fun q => subS q.l ys[i].l) = true) : KInv ys ks (i + 1) ys[i].l.length sh := by
  rw [h.any hs] at ha
  obtain ⟨q, hq, e⟩ := List.any_eq_true.1 ha
  refine ⟨by have := h.le; omega, h.sub.trans (by rw [take_up hi]; exact List.sublist_append_left _ _), h.anti, fun x hx => ?_, fun x hx => KAt.top (hi := hi) hs hx, .inr ⟨ys[i], (mem_up hi).2 (.inr rfl), rfl⟩, h.shle, h.low, h.high⟩
  rcases (mem_up hi).1 hx with h' | rfl
  · exact h.cov x h'
  · exact ⟨q, hq, sub_iff.1 e⟩
/-- Any other one is kept. -/
theorem KAt.keep {hi : i < ys.length} (h : KAt ys ks i sh hi) (hs : Srt ys) (ha : (ks.take sh).any (fun q => subS q.l ys[i].l) = false) : KInv ys (ks ++ [ys[i]]) (i + 1) ys[i].l.length sh := by
  rw [h.any hs] at ha
  have hno : ∀ q ∈ ks, ¬ ∀ x ∈ q.l, x ∈ ys[i].l := fun q hq e => by
    have : ks.any (fun q => subS q.l ys[i].l) = true := List.any_eq_true.2 ⟨q, hq, sub_iff.2 e⟩
    rw [ha] at this; cases this
  refine ⟨by have := h.le; simp; omega, by rw [take_up hi]; exact List.Sublist.append h.sub (List.Sublist.refl _), ?_, fun x hx => ?_, fun x hx => KAt.top (hi := hi) hs hx, .inr ⟨ys[i], (mem_up hi).2 (.inr rfl), rfl⟩, by have := h.shle; simp; omega, fun j hj hjs => ?_, fun j hj hjs => ?_⟩
  · intro a ha' b hb' e
    rcases List.mem_append.1 ha' with h1 | h1 <;> rcases List.mem_append.1 hb' with h2 | h2
    · exact h.anti a h1 b h2 e
    · rw [List.mem_singleton.1 h2] at e; exact absurd e (hno a h1)
    · rw [List.mem_singleton.1 h1] at e ⊢
      have hm := h.sub.subset h2
      have h3 := hs.ahead hi hm
      have h4 : ys[i].l = b.l := up_len (hs.up _ (List.getElem_mem hi)) (hs.up _ (List.mem_of_mem_take hm)) e (less_len h3)
      exact h4
    · rw [List.mem_singleton.1 h1, List.mem_singleton.1 h2]
  · rcases (mem_up hi).1 hx with h' | rfl
    · obtain ⟨p, hp, e⟩ := h.cov x h'; exact ⟨p, List.mem_append_left _ hp, e⟩
    · exact ⟨ys[i], List.mem_append_right _ (List.mem_singleton.2 rfl), fun z hz => hz⟩
  · have hj2 : j < ks.length := by have := h.shle; omega
    rw [List.getElem_append_left hj2]; exact h.low j hj2 hjs
  · by_cases hj2 : j < ks.length
    · rw [List.getElem_append_left hj2]; exact h.high j hj2 hjs
    · have : j = ks.length := by simp at hj; omega
      subst this
      simp
/-- What is kept is formed. -/
theorem KInv.fmd (h : KInv ys ks i len sh) (hs : Srt ys) (h0 : ∀ x ∈ ys, ∀ n ∈ x.l, 0 ≤ n) : Fmd (ks.map (·.l)) := by
  have hm : ∀ x ∈ ks, x ∈ ys := fun x hx => List.mem_of_mem_take (h.sub.subset hx)
  refine ⟨fun p hp => ?_, ?_, fun p hp q hq e => ?_⟩
  · obtain ⟨x, hx, rfl⟩ := List.mem_map.1 hp
    exact ⟨hs.up x (hm x hx), h0 x (hm x hx)⟩
  · rw [List.pairwise_map]
    exact List.Pairwise.sublist (h.sub.trans (List.take_sublist i ys)) hs.srt
  · obtain ⟨x, hx, rfl⟩ := List.mem_map.1 hp
    obtain ⟨y, hy, rfl⟩ := List.mem_map.1 hq
    exact h.anti x hx y hy e
end
/-- What the least of parts are. -/
def LeastOf (xs : List Pt) (r : List Pt) : Prop := Fmd (r.map (·.l)) ∧ (∀ p ∈ r, ∃ x ∈ xs, x.l = p.l) ∧ ∀ x ∈ xs, ∃ p ∈ r, ∀ z ∈ p.l, z ∈ x.l
theorem LeastOf.holds {xs r : List Pt} (h : LeastOf xs r) (on : List Int) : holdsS (r.map (·.l)) on = holdsS (xs.map (·.l)) on := by
  rw [Bool.eq_iff_iff, holds_iff, holds_iff]
  constructor
  · rintro ⟨p, hp, e⟩
    obtain ⟨q, hq, rfl⟩ := List.mem_map.1 hp
    obtain ⟨x, hx, e2⟩ := h.2.1 q hq
    exact ⟨x.l, List.mem_map.2 ⟨x, hx, rfl⟩, by rw [e2]; exact e⟩
  · rintro ⟨p, hp, e⟩
    obtain ⟨x, hx, rfl⟩ := List.mem_map.1 hp
    obtain ⟨q, hq, e2⟩ := h.2.2 x hx
    exact ⟨q.l, List.mem_map.2 ⟨q, hq, rfl⟩, fun z hz => e z (e2 z hz)⟩

end Go.Proofs.Ytehokjaojanieaa
