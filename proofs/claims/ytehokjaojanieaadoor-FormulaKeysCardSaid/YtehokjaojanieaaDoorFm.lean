/- Formulas as data and as memory; bolterref09.has, Holds. -/
import Derived.Test.YtehokjaojanieaaDoorProg
import Derived.Test.YtehokjaojanieaaDoorWords
import Derived.Test.YtehokjaojanieaaDoorRow
import Derived.Deep.QuietTactic
import Derived.BigQuiet
namespace Go.Proofs.YtehokjaojanieaaDoor
open Go.RowKit
set_option linter.unusedVariables false
set_option linter.unusedSimpArgs false

/-- What an int can hold. -/
def IsI (x : Int) : Prop := -9223372036854775808 ≤ x ∧ x ≤ 9223372036854775807
abbrev Fm := List (List Int)
def inAt (l : List Int) (j : Nat) : Int := (l[j]?).getD 0
def paAt (f : Fm) (j : Nat) : List Int := (f[j]?).getD []
theorem inAt_lt {l : List Int} {j : Nat} (h : j < l.length) : inAt l j = l[j] := by unfold inAt; rw [List.getElem?_eq_getElem h]; rfl
theorem paAt_lt {f : Fm} {j : Nat} (h : j < f.length) : paAt f j = f[j] := by unfold paAt; rw [List.getElem?_eq_getElem h]; rfl
/-- Numbers in a row. -/
def IntsAt (w : World) (v : Value) (l : List Int) : Prop :=
  ∃ A c, v = .slice A l.length c ∧ l.length ≤ c ∧ c ≤ 9223372036854775807 ∧ (∀ x ∈ l, IsI x) ∧ (0 < l.length → ∃ b off, A = some ⟨b, off, none⟩ ∧ b < w.heap.size ∧ ∀ j, j < l.length → w.cell? ⟨b, off + j, none⟩ = some (.int .i64 (inAt l j)))
/-- Parts in a row. -/
def FmAt (w : World) (v : Value) (f : Fm) : Prop :=
  ∃ A c, v = .slice A f.length c ∧ f.length ≤ c ∧ c ≤ 9223372036854775807 ∧ (0 < f.length → ∃ b off, A = some ⟨b, off, none⟩ ∧ b < w.heap.size ∧ ∀ j, j < f.length → ∃ u, w.cell? ⟨b, off + j, none⟩ = some u ∧ IntsAt w u (paAt f j))
section
variable {w w' : World} {v : Value} {l : List Int} {f : Fm}
theorem IntsAt.next (h : IntsAt w v l) (hb : Below w.heap.size w w') : IntsAt w' v l := by
  obtain ⟨A, c, h1, h2, h3, h4, h5⟩ := h
  refine ⟨A, c, h1, h2, h3, h4, fun h0 => ?_⟩
  obtain ⟨b, off, e, hlt, hr⟩ := h5 h0
  exact ⟨b, off, e, Nat.lt_of_lt_of_le hlt hb.size, fun j hj => ((bcell hb).1 b _ hlt).trans (hr j hj)⟩
theorem FmAt.next (h : FmAt w v f) (hb : Below w.heap.size w w') : FmAt w' v f := by
  obtain ⟨A, c, h1, h2, h3, h5⟩ := h
  refine ⟨A, c, h1, h2, h3, fun h0 => ?_⟩
  obtain ⟨b, off, e, hlt, hr⟩ := h5 h0
  refine ⟨b, off, e, Nat.lt_of_lt_of_le hlt hb.size, fun j hj => ?_⟩
  obtain ⟨u, hu, hi⟩ := hr j hj
  exact ⟨u, ((bcell hb).1 b _ hlt).trans hu, hi.next hb⟩
theorem IntsAt.drewN (h : IntsAt w v l) (q : Nat) : IntsAt (w.drewN q) v l := h
theorem FmAt.drewN (h : FmAt w v f) (q : Nat) : FmAt (w.drewN q) v f := h
/-- What is read at a place. -/
theorem IntsAt.at {A : Option Addr} {n c : Nat} (h : IntsAt w (.slice A n c) l) (j : Nat) (hj : j < l.length) : ∃ b off, A = some ⟨b, off, none⟩ ∧ b < w.heap.size ∧ w.cell? ⟨b, off + j, none⟩ = some (.int .i64 (inAt l j)) := by
  obtain ⟨A', c', h1, _, _, _, h5⟩ := h
  injection h1 with e1 _ _
  subst e1
  obtain ⟨b, off, e, hlt, hr⟩ := h5 (by omega)
  exact ⟨b, off, e, hlt, hr j hj⟩
theorem FmAt.at {A : Option Addr} {n c : Nat} (h : FmAt w (.slice A n c) f) (j : Nat) (hj : j < f.length) : ∃ b off A2 c2, A = some ⟨b, off, none⟩ ∧ b < w.heap.size ∧ w.cell? ⟨b, off + j, none⟩ = some (.slice A2 (paAt f j).length c2) ∧ IntsAt w (.slice A2 (paAt f j).length c2) (paAt f j) := by
  obtain ⟨A', c', h1, _, _, h5⟩ := h
  injection h1 with e1 _ _
  subst e1
  obtain ⟨b, off, e, hlt, hr⟩ := h5 (by omega)
  obtain ⟨u, hu, hi⟩ := hr j hj
  obtain ⟨A2, c2, rfl, r⟩ := id hi
  exact ⟨b, off, A2, c2, e, hlt, hu, hi⟩
theorem IntsAt.len {A : Option Addr} {n c : Nat} (h : IntsAt w (.slice A n c) l) : n = l.length := by obtain ⟨A', c', h1, _⟩ := h; injection h1
theorem FmAt.len {A : Option Addr} {n c : Nat} (h : FmAt w (.slice A n c) f) : n = f.length := by obtain ⟨A', c', h1, _⟩ := h; injection h1
theorem IntsAt.max {A : Option Addr} {n c : Nat} (h : IntsAt w (.slice A n c) l) : l.length ≤ 9223372036854775807 := by obtain ⟨A', c', h1, h2, h3, _⟩ := h; omega
theorem FmAt.max {A : Option Addr} {n c : Nat} (h : FmAt w (.slice A n c) f) : f.length ≤ 9223372036854775807 := by obtain ⟨A', c', h1, h2, h3, _⟩ := h; omega
end
theorem below_dn {B : Nat} {w w' : World} (h : Below B w w') (q : Nat) : Below B w (w'.drewN q) := ⟨h.os, h.tape, h.output, h.size, h.block⟩
theorem quiet_sum {w w' : World} {q x : Nat} (h : ∃ m, w' = (w.drewN (q + x)).drewN m) : ∃ n, w' = w.drewN (q + n) := by
  obtain ⟨m, rfl⟩ := h
  exact ⟨x + m, by rw [World.drewN_drewN, Nat.add_assoc]⟩
def hasS (l : List Int) (n : Int) : Bool := l.any (fun x => x == n)
def partS (p on : List Int) : Bool := p.all (fun n => hasS on n)
def holdsS (f : Fm) (on : List Int) : Bool := f.any (fun p => partS p on)
theorem any_take {α : Type} (l : List α) (g : α → Bool) (i : Nat) (h : i < l.length) : (l.take (i + 1)).any g = ((l.take i).any g || g l[i]) := by
  rw [List.take_add_one, List.getElem?_eq_getElem h]; simp only [Option.toList, List.any_append, List.any_cons, List.any_nil, Bool.or_false]
theorem all_take {α : Type} (l : List α) (g : α → Bool) (i : Nat) (h : i < l.length) : (l.take (i + 1)).all g = ((l.take i).all g && g l[i]) := by
  rw [List.take_add_one, List.getElem?_eq_getElem h]; simp only [Option.toList, List.all_append, List.all_cons, List.all_nil, Bool.and_true]
theorem any_at {α : Type} {l : List α} {g : α → Bool} {i : Nat} (h : i < l.length) (hg : g l[i] = true) : l.any g = true := List.any_eq_true.2 ⟨_, List.getElem_mem h, hg⟩

set_option maxRecDepth 100000 in
set_option maxHeartbeats 2000000 in
theorem refHas9 (l : List Int) (x : Int) (A : Option Addr) (n c : Nat) (w : World) (h : IntsAt w (.slice A n c) l) :
    Calls Tryd.prog 24 #[.slice A n c, .int .i64 x] w fun e w' => e = .returned (.bool (hasS l x)) ∧ w' = w := by
  have HI := Lib.hid h
  have hm := h.max
  obtain rfl := h.len
  clear h
  go_enter Tryd.func24, Tryd.ntmps24
  go_wp2_with fail
  go_loopw [8] (fun v wr => ∃ i : Nat, i ≤ l.length ∧ v = .int .i64 i ∧ w = wr ∧ Hid ((l.take i).any (fun y => y == x) = false)) (fun v _ => l.length - (intOf v).toNat)
  case atStart => exact ⟨0, Nat.zero_le _, rfl, rfl, Lib.hid (by simp)⟩
  case round =>
    obtain ⟨i, hi, rfl, rfl, HN⟩ := hrel
    by_cases hlt : i < l.length
    · have h1 : (0 : Int) ≤ (i : Int) := by omega
      have h2 : (i : Int) < (l.length : Int) := by omega
      obtain ⟨b, off, rfl, _, q1⟩ := HI.out.at i hlt
      have hst := any_take l (fun y => y == x) i hlt
      rw [HN.out, Bool.false_or, ← inAt_lt hlt] at hst
      obtain ⟨y, hy⟩ : ∃ y, inAt l i = y := ⟨_, rfl⟩
      rw [hy] at q1 hst
      have HY := Lib.hid hy
      clear hy
      by_cases he : y = x
      · have hbe : (y == x) = true := by rw [he]; exact beq_self_eq_true _
        go_wp2_with fail
        go_ret
        refine ⟨?_, rfl⟩
        rw [show hasS l x = true from any_at hlt (by rw [← inAt_lt hlt, HY.out]; exact hbe)]; rfl
      · have hbe : (y == x) = false := beq_eq_false_iff_ne.2 he
        rw [hbe] at hst
        have HS := Lib.hid hst
        clear hst
        go_wp2_with fail
        refine ⟨⟨i + 1, by omega, by go_num, by first | rfl | trivial, HS⟩, by simp [intOf]; omega⟩
    · obtain rfl : i = l.length := by omega
      go_wp2_with fail
      go_ret
      refine ⟨?_, rfl⟩
      have := HN.out
      rw [List.take_length] at this
      rw [show hasS l x = false from this]; rfl

set_option maxRecDepth 100000 in
set_option maxHeartbeats 4000000 in
theorem refHolds9 (f : Fm) (on : List Int) (A B : Option Addr) (n c m d : Nat) (w : World) (h : FmAt w (.slice A n c) f) (h' : IntsAt w (.slice B m d) on) :
    Calls Tryd.prog 19 #[.slice A n c, .slice B m d] w fun e w' => e = .returned (.bool (holdsS f on)) ∧ w' = w := by
  have HI := Lib.hid h
  have HO := Lib.hid h'
  have hm := h.max
  obtain rfl := h.len
  clear h h'
  go_enter Tryd.func19, Tryd.ntmps19
  go_wp2_with fail
  go_loopw [10] (fun v wr => ∃ i : Nat, i ≤ f.length ∧ v = .int .i64 i ∧ w = wr ∧ Hid ((f.take i).any (fun p => partS p on) = false)) (fun v _ => f.length - (intOf v).toNat)
  case atStart => exact ⟨0, Nat.zero_le _, rfl, rfl, Lib.hid (by simp)⟩
  case round =>
    obtain ⟨i, hi, rfl, rfl, HN⟩ := hrel
    by_cases hlt : i < f.length
    · have h1 : (0 : Int) ≤ (i : Int) := by omega
      have h2 : (i : Int) < (f.length : Int) := by omega
      obtain ⟨b, off, A2, c2, rfl, _, q1, hp⟩ := HI.out.at i hlt
      have hst := any_take f (fun p => partS p on) i hlt
      rw [HN.out, Bool.false_or, ← paAt_lt hlt] at hst
      have HP := Lib.hid hp
      have hpm := hp.max
      obtain ⟨p, hpe⟩ : ∃ p, paAt f i = p := ⟨_, rfl⟩
      rw [hpe] at q1 hst HP hpm
      have HPe := Lib.hid hpe
      clear hp hpe
      go_wp2_with fail
      go_loopw [6, 18] (fun a v wr => ∃ k : Nat, k ≤ p.length ∧ v = .int .i64 k ∧ w = wr ∧ a = .bool ((p.take k).all (fun n => hasS on n))) (fun _ v _ => p.length - (intOf v).toNat)
      case atStart => exact ⟨0, Nat.zero_le _, rfl, rfl, by simp⟩
      case round =>
        obtain ⟨k, hk, rfl, rfl, rfl⟩ := hrel
        by_cases hkl : k < p.length
        · have h3 : (0 : Int) ≤ (k : Int) := by omega
          have h4 : (k : Int) < (p.length : Int) := by omega
          obtain ⟨b2, off2, rfl, _, q2⟩ := HP.out.at k hkl
          have hst2 := Lib.hid (all_take p (fun n => hasS on n) k hkl)
          obtain ⟨va, hva⟩ : ∃ va, (p.take k).all (fun n => hasS on n) = va := ⟨_, rfl⟩
          rw [hva] at hst2 ⊢
          have HVa := Lib.hid hva
          clear hva
          rw [← inAt_lt hkl] at hst2
          cases va
          · go_wp2_with fail
            refine ⟨⟨k + 1, by omega, by go_num, by first | rfl | trivial, by rw [hst2.out, Bool.false_and]⟩, by simp [intOf]; omega⟩
          · go_wp2_with fail
            refine (refHas9 on (inAt p k) B m d _ HO.out).mono ?_
            rintro e w3 ⟨rfl, rfl⟩
            go_wp2_with fail
            refine ⟨⟨k + 1, by omega, by go_num, by first | rfl | trivial, by rw [hst2.out, Bool.true_and]⟩, by simp [intOf]; omega⟩
        · obtain rfl : k = p.length := by omega
          rw [List.take_length]
          obtain ⟨va, hva⟩ : ∃ va, p.all (fun n => hasS on n) = va := ⟨_, rfl⟩
          rw [hva]
          have HVa : Hid (partS p on = va) := Lib.hid hva
          clear hva
          rw [HVa.out] at hst
          have HS := Lib.hid hst
          clear hst
          cases va
          · go_wp2_with fail
            refine ⟨⟨i + 1, by omega, by go_num, by first | rfl | trivial, HS⟩, by simp [intOf]; omega⟩
          · go_wp2_with fail
            go_ret
            refine ⟨?_, rfl⟩
            rw [show holdsS f on = true from any_at hlt (by rw [← paAt_lt hlt, HPe.out]; exact HVa.out)]; rfl
    · obtain rfl : i = f.length := by omega
      go_wp2_with fail
      go_ret
      refine ⟨?_, rfl⟩
      have := HN.out
      rw [List.take_length] at this
      rw [show holdsS f on = false from this]; rfl

end Go.Proofs.YtehokjaojanieaaDoor
