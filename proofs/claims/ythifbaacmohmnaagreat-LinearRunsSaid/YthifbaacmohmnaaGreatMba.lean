/- Joined: FoU, FoV, FoW. -/
import Derived.Test.YthifbaacmohmnaaGreatMaz
import Derived.Test.YthifbaacmohmnaaGreatMas
/- package formula: atomsOf. -/
namespace Go.Proofs.YthifbaacmohmnaaGreat
open Go.RowKit
set_option linter.unusedVariables false
set_option linter.unusedSimpArgs false

theorem ints_nth {w : World} {b off n c : Nat} {l : List Int} (h : IntsAt w (.slice (some ⟨b, off, none⟩) n c) l) {i : Nat} (hi : i < l.length) : IntsAt w (.slice (some ⟨b, off + i, none⟩) 1 (c - i)) [inAt l i] := by
  obtain ⟨A', c', e, h2, h3, h4, h5⟩ := h
  injection e with e1 _ e3
  subst e1 e3
  obtain ⟨b', off', e, hb, r⟩ := h5 (by omega)
  injection e with e
  injection e with e1 e2
  subst e1 e2
  refine ⟨_, c - i, rfl, by simp; omega, by omega, fun x hx => ?_, fun _ => ⟨b, off + i, rfl, hb, fun j hj => ?_⟩⟩
  · rw [List.mem_singleton.1 hx, inAt_lt hi]; exact h4 _ (List.getElem_mem hi)
  · obtain rfl : j = 0 := by simpa using hj
    exact r i hi

set_option maxRecDepth 100000 in
set_option maxHeartbeats 4000000 in
theorem fAtomsOf (l : List Int) (A : Option Addr) (n c : Nat) (w : World) (h : IntsAt w (.slice A n c) l) (hn : l.length ≤ 1000000) (h0 : ∀ x ∈ l, 0 ≤ x) :
    Calls Tryz.prog 186 #[.slice A n c] w fun e w' => ∃ v ps, e = .returned v ∧ Pts w' w.heap.size v ps ∧ (∀ x ∈ ps, PtOk w' (fun b => w.heap.size ≤ b) x) ∧ ps.map (·.l) = l.map (fun x => [x]) ∧ Below w.heap.size w w' := by
  have HI := Lib.hid h
  have hm := h.max
  have hcl : l.length ≤ c ∧ c ≤ 9223372036854775807 := by
    obtain ⟨_, _, e, r1, r2, _⟩ := h
    injection e with _ _ e3
    subst e3
    exact ⟨r1, r2⟩
  obtain ⟨hc1, hc2⟩ := hcl
  obtain rfl := h.len
  have H0 := Lib.hid h0
  have hmk := make_parts l.length (by omega)
  have hR0 := made_parts w l.length
  have hB0 : Below w.heap.size w (w.alloc (.cells (madeCells partZero (l.length * 2)) 171)) := (Below.refl _ _).alloc (Nat.le_refl _) _
  clear h h0
  go_enter Tryz.func186, Tryz.ntmps186
  go_wp2_with fail
  clear hmk
  generalize w.alloc (.cells (madeCells partZero (l.length * 2)) 171) = W at hB0 hR0 ⊢
  go_loopw [10] (fun v wr => ∃ (i : Nat), i ≤ l.length ∧ v = .int .i64 i ∧ Hid (Below w.heap.size w wr) ∧ Hid (∃ ps : List Pt, RowF wr w.heap.size l.length (fun j => ps[j]?) ∧ (∀ x ∈ ps, PtOk wr (fun b => w.heap.size ≤ b) x) ∧ ps.map (·.l) = (l.take i).map (fun x => [x]))) (fun v _ => l.length - (intOf v).toNat)
  case atStart => exact ⟨0, Nat.zero_le _, rfl, Lib.hid hB0, Lib.hid ⟨[], hR0.weaken (fun j x hx => by simp at hx), (fun x hx => by cases hx), rfl⟩⟩
  case round =>
    obtain ⟨i, hi, rfl, HB, HP⟩ := hrel
    by_cases hlt : i < l.length
    · have h1 : (0 : Int) ≤ (i : Int) := by omega
      have h2 : (i : Int) < (l.length : Int) := by omega
      have h3 : (i : Int) + 1 ≤ (l.length : Int) := by omega
      have h4 : (i : Int) + 1 ≤ (c : Int) := by omega
      have h5 : ¬ (c = i) := by omega
      obtain ⟨b, off, rfl, hbl, _⟩ := HI.out.at i hlt
      have HO := Lib.hid (ints_nth HI.out hlt)
      have htk := Lib.hid (take_step l i hlt)
      have hx0 : Hid (∀ x ∈ [inAt l i], 0 ≤ x) := Lib.hid (fun x hx => by rw [List.mem_singleton.1 hx, inAt_lt hlt]; exact H0.out _ (List.getElem_mem hlt))
      go_wp2_with fail
      refine (fPartOf [inAt l i] (some ⟨b, off + i, none⟩) 1 (c - i) wr (HO.out.next HB.out) hx0.out).mono ?_
      rintro e w3 ⟨m, rfl, hmk, hb3⟩
      have HM := Lib.hid hmk
      have HB3 := Lib.hid hb3
      have HB4 := Lib.hid (HB.out.trans (hb3.mono HB.out.size))
      obtain ⟨ps, a1, a2, a3⟩ := HP.out
      have hl : ps.length = i := by rw [← List.length_map (f := (·.l)), a3, List.length_map, List.length_take]; omega
      have a1' := Lib.hid (a1.next hb3)
      obtain ⟨u0, u1, c0, c1⟩ := a1'.out.there hlt
      have f0 := a1'.out.free (i * 2)
      have f1 := a1'.out.free (i * 2 + 1)
      have A2' := Lib.hid a2
      have A3 := Lib.hid a3
      have HL := Lib.hid hl
      clear hmk hb3 a1 a2 a3 hl
      go_wp2_with fail
      have hx : PtOk w (fun b => w.heap.size ≤ b) ⟨.slice (some ⟨b, off + i, none⟩) 1 (c - i), m, [inAt l i]⟩ := IntsAt.pt (l := [inAt l i]) HO.out (List.pairwise_singleton _ _) hx0.out HM.out (fun b hb h => by omega)
      have hg := grown2 w3 w.heap.size (i * 2) (i * 2 + 1) (.slice (some ⟨b, off + i, none⟩) 1 (c - i)) (.int .u64 m)
      have hl := HL.out
      refine ⟨⟨i + 1, by omega, by go_num, Lib.hid ?_, Lib.hid ⟨ps ++ [⟨.slice (some ⟨b, off + i, none⟩) 1 (c - i), m, [inAt l i]⟩], ?_, ?_, ?_⟩⟩, by simp [intOf]; omega⟩
      · exact (HB4.out.setCell (p := ⟨w.heap.size, i * 2, none⟩) (Nat.le_refl _) _).setCell (p := ⟨w.heap.size, i * 2 + 1, none⟩) (Nat.le_refl _) _
      · exact (a1'.out.put hlt ⟨.slice (some ⟨b, off + i, none⟩) 1 (c - i), m, [inAt l i]⟩).weaken (pa_push hl _)
      · intro x hx'
        rcases List.mem_append.1 hx' with h | h
        · exact ((A2'.out x h).below HB3.out).grown hg (fun k e => by injection e with e; subst e; exact Nat.le_refl _)
        · rw [List.mem_singleton.1 h]
          exact (hx.below HB4.out).grown hg (fun k e => by injection e with e; subst e; exact Nat.le_refl _)
      · rw [List.map_append, A3.out, htk.out, List.map_append, ← inAt_lt hlt]; rfl
    · obtain rfl : i = l.length := by omega
      go_wp2_with fail
      go_ret
      obtain ⟨ps, a1, a2, a3⟩ := HP.out
      rw [List.take_length] at a3
      have hl : ps.length = l.length := by rw [← List.length_map (f := (·.l)), a3, List.length_map]
      refine ⟨_, ps, rfl, ?_, a2, a3, HB.out⟩
      have := a1.own ps (fun j h => List.getElem?_eq_getElem h) (by omega) (by unfold maxLen; omega) (Nat.le_refl _)
      rwa [hl] at this

end Go.Proofs.YthifbaacmohmnaaGreat

/- package formula: mathematics of Dual. No program is walked here. -/
namespace Go.Proofs.YthifbaacmohmnaaGreat
open Go.RowKit
set_option linter.unusedVariables false
set_option linter.unusedSimpArgs false

/-- In each part some number is on. -/
def dualH (f : Fm) (on : List Int) : Bool := f.all (fun p => p.any (fun x => hasS on x))
theorem dualH_app (f g : Fm) (on : List Int) : dualH (f ++ g) on = (dualH f on && dualH g on) := by unfold dualH; rw [List.all_append]
theorem dualH_one (p : List Int) (on : List Int) : dualH [p] on = p.any (fun x => hasS on x) := by unfold dualH; simp
/-- The parts of a number each hold just if one of the numbers is on. -/
theorem atoms_holds (l on : List Int) : holdsS (l.map (fun x => [x])) on = l.any (fun x => hasS on x) := by
  rw [Bool.eq_iff_iff, holds_iff, List.any_eq_true]
  constructor
  · rintro ⟨p, hp, e⟩
    obtain ⟨x, hx, rfl⟩ := List.mem_map.1 hp
    exact ⟨x, hx, has_iff.2 (e x (by simp))⟩
  · rintro ⟨x, hx, e⟩
    exact ⟨[x], List.mem_map.2 ⟨x, hx, rfl⟩, fun y hy => by rw [List.mem_singleton.1 hy]; exact has_iff.1 e⟩
/-- All numbers of parts of one number each. -/
theorem ones_holds {f : Fm} (h : ∀ p ∈ f, p.length = 1) (on : List Int) : holdsS [f.flatten] on = dualH f on := by
  rw [holds_one, Bool.eq_iff_iff, part_iff]
  unfold dualH
  rw [List.all_eq_true]
  constructor
  · intro e p hp
    match p, h p hp with
    | [x], _ => simpa using has_iff.2 (e x (List.mem_flatten.2 ⟨[x], hp, by simp⟩))
  · intro e x hx
    obtain ⟨p, hp, hx⟩ := List.mem_flatten.1 hx
    have h1 := h p hp
    have h2 := e p hp
    match p, h1 with
    | [y], _ =>
      rw [List.mem_singleton.1 hx]
      exact has_iff.1 (by simpa using h2)
theorem ones_up {f : Fm} (hs : f.Pairwise (fun p q => lessS p q = true)) (h : ∀ p ∈ f, p.length = 1) : Up f.flatten := by
  induction f with
  | nil => exact List.Pairwise.nil
  | cons p f ih =>
    rw [List.pairwise_cons] at hs
    have ih' := ih hs.2 (fun q hq => h q (by simp [hq]))
    match p, h p (by simp), hs.1 with
    | [x], _, h1 =>
      rw [List.flatten_cons]
      show Up (x :: f.flatten)
      unfold Up
      rw [List.pairwise_cons]
      refine ⟨fun y hy => ?_, ih'⟩
      obtain ⟨q, hq, hy⟩ := List.mem_flatten.1 hy
      have h2 := h1 q hq
      match q, h q (by simp [hq]) with
      | [z], _ =>
        rw [List.mem_singleton.1 hy]
        unfold lessS at h2
        simp [lexS] at h2
        exact h2.2
theorem one_fmd {p : List Int} (hu : Up p) (h0 : ∀ x ∈ p, 0 ≤ x) : Fmd [p] :=
  ⟨fun q hq => by rw [List.mem_singleton.1 hq]; exact ⟨hu, h0⟩, List.pairwise_singleton _ _, fun q hq r hr _ => by rw [List.mem_singleton.1 hq, List.mem_singleton.1 hr]⟩
end Go.Proofs.YthifbaacmohmnaaGreat

/- package formula: Dual. -/
namespace Go.Proofs.YthifbaacmohmnaaGreat
open Go.RowKit
set_option linter.unusedVariables false
set_option linter.unusedSimpArgs false

set_option maxRecDepth 100000 in
set_option maxHeartbeats 4000000 in
theorem fDual1 (l : List Int) (A : Option Addr) (n c : Nat) (w : World) (h : IntsAt w (.slice A n c) l) : Calls Tryz.prog 184 #[.slice A n c] w fun e w' => e = .returned (.bool (!decide (l.length = 1))) ∧ Below w.heap.size w w' := by
  have hm := h.max
  obtain rfl := h.len
  clear h
  go_enter Tryz.func184, Tryz.ntmps184
  go_wp2_with fail
  go_ret
  refine ⟨?_, Below.refl _ _⟩
  by_cases h1 : l.length = 1
  · simp [h1]
  · have h2 : ¬ ((l.length : Int) = 1) := by omega
    simp [h1, h2]
theorem FmAt.take {w : World} {A : Option Addr} {n c : Nat} {f : Fm} (h : FmAt w (.slice A n c) f) (k : Nat) (hk : k ≤ f.length) : FmAt w (.slice A k c) (f.take k) := by
  obtain ⟨A', c', e, h2, h3, h5⟩ := h
  injection e with e1 _ e3
  subst e1 e3
  have hl : (f.take k).length = k := by rw [List.length_take]; omega
  refine ⟨A, c, by rw [hl], by omega, h3, fun h0 => ?_⟩
  rw [hl] at h0
  obtain ⟨b, off, e, hb, r⟩ := h5 (by omega)
  refine ⟨b, off, e, hb, fun j hj => ?_⟩
  rw [hl] at hj
  obtain ⟨u, hu, hi⟩ := r j (by omega)
  refine ⟨u, hu, ?_⟩
  rw [show paAt (f.take k) j = paAt f j by unfold paAt; rw [List.getElem?_take_of_lt hj]]
  exact hi
theorem FmAt.drop {w : World} {b off n c : Nat} {f : Fm} (h : FmAt w (.slice (some ⟨b, off, none⟩) n c) f) (k : Nat) (hk : k ≤ n) : FmAt w (.slice (if c = k then some ⟨b, off, none⟩ else some ⟨b, off + k, none⟩) (n - k) (c - k)) (f.drop k) := by
  obtain rfl := h.len
  obtain ⟨A', c', e, h2, h3, h5⟩ := h
  injection e with e1 _ e3
  subst e1 e3
  have hl : (f.drop k).length = f.length - k := List.length_drop
  refine ⟨_, c - k, by rw [hl], by omega, by omega, fun h0 => ?_⟩
  rw [hl] at h0
  obtain ⟨b', off', e, hb, r⟩ := h5 (by omega)
  injection e with e
  injection e with e1 e2
  subst e1 e2
  rw [if_neg (by omega)]
  refine ⟨b, off + k, rfl, hb, fun j hj => ?_⟩
  rw [hl] at hj
  obtain ⟨u, hu, hi⟩ := r (k + j) (by omega)
  rw [← Nat.add_assoc] at hu
  refine ⟨u, hu, ?_⟩
  rw [show paAt (f.drop k) j = paAt f (k + j) by unfold paAt; rw [List.getElem?_drop]]
  exact hi
theorem one_row {w : World} {v : Value} {m : Nat} {l : List Int} (h : PtOk w (fun _ => False) ⟨v, m, l⟩) : PsAt (w.alloc (.cells #[v, .int .u64 m] 171)) (.slice (some ⟨w.heap.size, 0, none⟩) 1 1) [⟨v, m, l⟩] := by
  have hb : Below w.heap.size w (w.alloc (.cells #[v, .int .u64 m] 171)) := (Below.refl _ _).alloc (Nat.le_refl _) _
  refine ⟨⟨_, 1, rfl, Nat.le_refl _, by omega, fun _ => ⟨w.heap.size, 1, rfl, Nat.le_refl _, _, At.new _ _ _, rfl, fun j x hx => ?_⟩⟩, fun x hx => by rw [List.mem_singleton.1 hx]; exact h.below hb⟩
  dsimp only at hx
  match j, hx with
  | 0, hx => injection hx with hx; subst hx; exact ⟨by omega, rfl, rfl⟩
  | j + 1, hx => simp at hx

end Go.Proofs.YthifbaacmohmnaaGreat
