/- bolterref09.Formed of formulas. -/
import Derived.Test.YtehokjaojanieaaDoorFmLess
import Derived.Deep.RegionHeld3
namespace Go.Proofs.YtehokjaojanieaaDoor
open Go.RowKit
set_option linter.unusedVariables false
set_option linter.unusedSimpArgs false

def riseTo (p : List Int) (k : Nat) : Bool := (List.range k).all (fun j => decide (0 ≤ inAt p j) && (decide (j = 0) || decide (inAt p (j - 1) < inAt p j)))
def riseS (p : List Int) : Bool := riseTo p p.length
def apartTo (f : Fm) (i k : Nat) : Bool := (List.range k).all (fun j => !partS (paAt f j) (paAt f i))
def okAt (f : Fm) (i : Nat) : Bool := riseS (paAt f i) && ((decide (i = 0) || lessS (paAt f (i - 1)) (paAt f i)) && apartTo f i i)
def formedTo (f : Fm) (i : Nat) : Bool := (List.range i).all (okAt f)
/-- A formed formula. -/
def fmS (f : Fm) : Bool := formedTo f f.length
theorem range_all (g : Nat → Bool) (k : Nat) : (List.range (k + 1)).all g = ((List.range k).all g && g k) := by
  rw [List.range_succ, List.all_append]; simp
theorem range_no {g : Nat → Bool} {k n : Nat} (h : g k = false) (hk : k < n) : (List.range n).all g = false := by
  cases hb : (List.range n).all g with
  | false => rfl
  | true =>
    have := List.all_eq_true.1 hb k (List.mem_range.2 hk)
    rw [h] at this; cases this
theorem holds_one (p on : List Int) : holdsS [p] on = partS p on := by unfold holdsS; simp
theorem one_at {w : World} {u : Value} {p : List Int} {T : TypeId} (h : IntsAt w u p) : FmAt (w.alloc (.cells #[u] T)) (.slice (some ⟨w.heap.size, 0, none⟩) 1 1) [p] := by
  refine ⟨_, _, rfl, Nat.le_refl _, by omega, fun _ => ⟨w.heap.size, 0, rfl, by simp, fun j hj => ?_⟩⟩
  obtain rfl : j = 0 := by simpa using hj
  refine ⟨u, ?_, h.next ((Below.refl _ _).alloc (Nat.le_refl _) _)⟩
  have := (At.new w T #[u]).cell 0
  simp

set_option maxRecDepth 100000 in
set_option maxHeartbeats 16000000 in
theorem refFormed9 (f : Fm) (A : Option Addr) (n c : Nat) (w : World) (h : FmAt w (.slice A n c) f) :
    Calls Tryd.prog 9 #[.slice A n c] w fun e w' => e = .returned (.bool (fmS f)) ∧ Below w.heap.size w w' := by
  have HI := Lib.hid h
  have hm := h.max
  obtain rfl := h.len
  clear h
  go_enter Tryd.func9, Tryd.ntmps9
  go_wp2_with fail
  go_loopw [8] (fun v wr => ∃ i : Nat, i ≤ f.length ∧ v = .int .i64 i ∧ Hid (Below w.heap.size w wr) ∧ Hid (formedTo f i = true)) (fun v _ => f.length - (intOf v).toNat)
  case atStart => exact ⟨0, Nat.zero_le _, rfl, Lib.hid (Below.refl _ _), Lib.hid rfl⟩
  case round =>
    obtain ⟨i, hi, rfl, HB, HE⟩ := hrel
    by_cases hlt : i < f.length
    · have h1 : (0 : Int) ≤ (i : Int) := by omega
      have h2 : (i : Int) < (f.length : Int) := by omega
      have HIr := Lib.hid (HI.out.next HB.out)
      obtain ⟨b1, o1, A1, c1, rfl, hb1, q1, hp1⟩ := HIr.out.at i hlt
      have HBl := Lib.hid hb1
      have hstep := range_all (okAt f) i
      have hnot : okAt f i = false → fmS f = false := fun e => range_no e hlt
      have hoki : okAt f i = (riseS (paAt f i) && ((decide (i = 0) || lessS (paAt f (i - 1)) (paAt f i)) && apartTo f i i)) := rfl
      have hap : ∀ k, apartTo f i k = (List.range k).all (fun j => !partS (paAt f j) (paAt f i)) := fun _ => rfl
      obtain ⟨p, hpe⟩ : ∃ p, paAt f i = p := ⟨_, rfl⟩
      rw [hpe] at q1 hp1 hoki
      simp only [hpe] at hap
      have HP := Lib.hid hp1
      have hpm := hp1.max
      have HOk := Lib.hid hoki
      have HNot := Lib.hid hnot
      have HAp := Lib.hid hap
      have HSt : Hid (formedTo f (i + 1) = okAt f i) := Lib.hid (by have := HE.out; unfold formedTo at this ⊢; rw [hstep, this, Bool.true_and])
      clear hp1 hpe hoki hnot hstep hap hb1
      go_wp2_with fail
      obtain ⟨wo, hwo⟩ : ∃ wo : World, wo = wr := ⟨_, rfl⟩
      rw [← hwo] at HB HIr HBl q1 HP ⊢
      clear hwo
      go_loopw [16] (fun v wr => ∃ k q : Nat, k ≤ p.length ∧ v = .int .i64 k ∧ wr = wo.drewN q ∧ Hid (riseTo p k = true)) (fun v _ => p.length - (intOf v).toNat)
      case atStart => exact ⟨0, 0, Nat.zero_le _, rfl, rfl, Lib.hid rfl⟩
      case round =>
        obtain ⟨k, q, hk, rfl, rfl, HR⟩ := hrel
        by_cases hkl : k < p.length
        · have h3 : (0 : Int) ≤ (k : Int) := by omega
          have h4 : (k : Int) < (p.length : Int) := by omega
          obtain ⟨b2, o2, rfl, _, q2⟩ := HP.out.at k hkl
          have hrs : riseTo p (k + 1) = (decide (0 ≤ inAt p k) && (decide (k = 0) || decide (inAt p (k - 1) < inAt p k))) := by have := HR.out; unfold riseTo at this ⊢; rw [range_all, this, Bool.true_and]
          have hrn : (decide (0 ≤ inAt p k) && (decide (k = 0) || decide (inAt p (k - 1) < inAt p k))) = false → riseS p = false := fun e => range_no (g := fun j => decide (0 ≤ inAt p j) && (decide (j = 0) || decide (inAt p (j - 1) < inAt p j))) e hkl
          have hprev : 0 < k → wo.cell? ⟨b2, o2 + (k - 1), none⟩ = some (.int .i64 (inAt p (k - 1))) := fun h0 => by
            obtain ⟨b3, o3, e3, _, q3⟩ := HP.out.at (k - 1) (by omega)
            injection e3 with e3
            injection e3 with e3 e4 _
            subst e3 e4
            exact q3
          obtain ⟨x, hx⟩ : ∃ x, inAt p k = x := ⟨_, rfl⟩
          rw [hx] at q2 hrs hrn
          have HRs := Lib.hid hrs
          have HRn := Lib.hid hrn
          have HPr := Lib.hid hprev
          clear hx hrs hrn hprev
          by_cases hneg : x < 0
          · have hneg1 : decide (x < 0) = true := decide_eq_true hneg
            have HF : Hid (fmS f = false) := Lib.hid (HNot.out (by rw [HOk.out, HRn.out (by rw [decide_eq_false (by omega)]; rfl)]; rfl))
            go_wp2_with fail
            go_quiet (fail)
            go_wp2_with fail
            go_ret
            refine ⟨?_, ?_⟩
            · rw [HF.out]; rfl
            · simp only [World.drewN_drewN]; exact below_dn HB.out _
          · have hneg1 : decide (x < 0) = false := decide_eq_false hneg
            by_cases hk0 : k = 0
            · have hk01 : ¬ (0 : Int) < (k : Int) := by omega
              have hk02 : decide ((0 : Int) < (k : Int)) = false := decide_eq_false hk01
              have hk03 : decide (0 < k) = false := decide_eq_false (by omega)
              have HK0 := Lib.hid hk0
              have HN0 := Lib.hid hneg
              clear hk0
              go_wp2_with fail
              go_quiet (fail)
              go_wp2_with fail
              go_roundw
              case rel => exact ⟨k + 1, q + nq, by omega, by go_num, rfl, Lib.hid (by rw [HRs.out, decide_eq_true (show (0 : Int) ≤ x by have := HN0.out; omega), decide_eq_true HK0.out]; rfl)⟩
              case measure => simp [intOf]; omega
            · have hk01 : (0 : Int) < (k : Int) := by omega
              have hk02 : decide ((0 : Int) < (k : Int)) = true := decide_eq_true hk01
              have hk03 : decide (0 < k) = true := decide_eq_true (by omega)
              obtain ⟨k1, hk1⟩ : ∃ k1, k1 = k - 1 := ⟨_, rfl⟩
              have q3 := HPr.out (by omega)
              rw [← hk1] at q3
              obtain ⟨y, hy⟩ : ∃ y, inAt p k1 = y := ⟨_, rfl⟩
              rw [hy] at q3
              have e1 : IntKind.i64.wrap ((k : Int) - 1) = (k1 : Int) := by rw [IntKind.wrap_i64]; omega
              have e2 : (k : Int) - 1 = (k1 : Int) := by omega
              have h5 : (0 : Int) ≤ (k1 : Int) := by omega
              have h6 : (k1 : Int) < (p.length : Int) := by omega
              have HY : Hid (inAt p (k - 1) = y) := Lib.hid (by rw [← hk1]; exact hy)
              have HK0 := Lib.hid hk0
              have HN0 := Lib.hid hneg
              clear hk0 hy hk1
              by_cases hle : x ≤ y
              · have hle1 : decide (x ≤ y) = true := decide_eq_true hle
                have HF : Hid (fmS f = false) := Lib.hid (HNot.out (by rw [HOk.out, HRn.out (by rw [HY.out, decide_eq_false HK0.out, decide_eq_false (show ¬ y < x by omega)]; simp)]; rfl))
                go_wp2_with fail
                go_quiet (fail)
                go_wp2_with fail
                go_ret
                refine ⟨?_, ?_⟩
                · rw [HF.out]; rfl
                · simp only [World.drewN_drewN]; exact below_dn HB.out _
              · have hle1 : decide (x ≤ y) = false := decide_eq_false hle
                have HLe := Lib.hid hle
                go_wp2_with fail
                go_quiet (fail)
                clear e1 e2
                go_wp2_with fail
                go_roundw
                case rel => exact ⟨k + 1, q + nq, by omega, by go_num, rfl, Lib.hid (by rw [HRs.out, HY.out, decide_eq_true (show (0 : Int) ≤ x by have := HN0.out; omega), decide_eq_true (show y < x by have := HLe.out; omega)]; simp)⟩
                case measure => simp [intOf]; omega
        · obtain rfl : k = p.length := by omega
          have HOk2 : Hid (okAt f i = ((decide (i = 0) || lessS (paAt f (i - 1)) p) && apartTo f i i)) := Lib.hid (by rw [HOk.out, show riseS p = true from HR.out, Bool.true_and])
          have hcase : (i = 0 ∧ decide (0 < i) = false ∧ decide ((0 : Int) < (i : Int)) = false) ∨ (0 < i ∧ decide (0 < i) = true ∧ decide ((0 : Int) < (i : Int)) = true) := by
            by_cases h0 : 0 < i
            · exact Or.inr ⟨h0, decide_eq_true h0, decide_eq_true (by omega)⟩
            · exact Or.inl ⟨by omega, decide_eq_false h0, decide_eq_false (by omega)⟩
          rcases hcase with ⟨h0, h01, h02⟩ | ⟨h0, h01, h02⟩
          · have HOk3 : Hid (okAt f i = apartTo f i i) := Lib.hid (by rw [HOk2.out, decide_eq_true h0]; rfl)
            have h03 : ¬ (0 : Int) < (i : Int) := by omega
            clear h0
            go_wp2_with fail
            go_quiet (fail)
            go_wp2_with fail
            have HBs : Hid (Below w.heap.size w (wo.drewN (q + nq))) := Lib.hid (below_dn HB.out _)
            obtain ⟨ws, hws⟩ : ∃ ws, ws = wo.drewN (q + nq) := ⟨_, rfl⟩
            have HIs : Hid (FmAt ws (.slice (some ⟨b1, o1, none⟩) f.length c) f) := Lib.hid (by rw [hws]; exact HIr.out.drewN _)
            have HPs : Hid (IntsAt ws (.slice A1 p.length c1) p) := Lib.hid (by rw [hws]; exact HP.out.drewN _)
            have q1s : ws.cell? ⟨b1, o1 + i, none⟩ = some (.slice A1 p.length c1) := by rw [hws]; exact q1
            have hb1s : b1 < ws.heap.size := by rw [hws]; exact HBl.out
            rw [← hws] at HBs
            first | rw [← hws] | rw [World.drewN_drewN, ← hws]
            have HBl2 := Lib.hid hb1s
            clear hws q1 hb1s HIr HP
            go_loopw [66] (fun v wr => ∃ k : Nat, k ≤ i ∧ v = .int .i64 k ∧ Hid (Below ws.heap.size ws wr) ∧ Hid (apartTo f i k = true)) (fun v _ => i - (intOf v).toNat)
            case atStart => exact ⟨0, Nat.zero_le _, rfl, Lib.hid (Below.refl _ _), Lib.hid rfl⟩
            case round =>
              obtain ⟨k, hk, rfl, HBk, HAk⟩ := hrel
              by_cases hki : k < i
              · have h7 : (0 : Int) ≤ (k : Int) := by omega
                have h8 : (k : Int) < (i : Int) := by omega
                have h9 : (k : Int) < (f.length : Int) := by omega
                have HIk := Lib.hid (HIs.out.next HBk.out)
                have HPk := Lib.hid (HPs.out.next HBk.out)
                have q1k : wr.cell? ⟨b1, o1 + i, none⟩ = some (.slice A1 p.length c1) := ((bcell HBk.out).1 b1 _ HBl2.out).trans q1s
                obtain ⟨b6, o6, A6, c6, e6, _, q6, hp6⟩ := HIk.out.at k (by omega)
                injection e6 with e6
                injection e6 with e6 e7 _
                subst e6 e7
                have hak : apartTo f i (k + 1) = !partS (paAt f k) p := by have := HAk.out; rw [HAp.out] at this ⊢; rw [range_all, this, Bool.true_and]
                have hno : (!partS (paAt f k) p) = false → apartTo f i i = false := fun e => by rw [HAp.out]; exact range_no (g := fun j => !partS (paAt f j) p) e hki
                obtain ⟨p6, hp6e⟩ : ∃ p6, paAt f k = p6 := ⟨_, rfl⟩
                rw [hp6e] at q6 hp6 hak hno
                have HP6 := Lib.hid hp6
                have HAk1 := Lib.hid hak
                have HNo := Lib.hid hno
                have HBl3 : Hid (b1 < wr.heap.size) := Lib.hid (Nat.lt_of_lt_of_le HBl2.out HBk.out.size)
                obtain ⟨vb, hvb⟩ : ∃ vb, partS p6 p = vb := ⟨_, rfl⟩
                have HVb := Lib.hid hvb
                clear hp6 hp6e hak hno hvb q1s
                have hal : Below wr.heap.size wr (wr.alloc (Obj.cells #[.slice A6 p6.length c6] 32)) := (Below.refl _ _).alloc (Nat.le_refl _) _
                have s1 : (wr.alloc (Obj.cells #[.slice A6 p6.length c6] 32)).cell? ⟨b1, o1 + k, none⟩ = some (.slice A6 p6.length c6) := ((bcell hal).1 b1 _ HBl3.out).trans q6
                have s2 : (wr.alloc (Obj.cells #[.slice A6 p6.length c6] 32)).cell? ⟨b1, o1 + i, none⟩ = some (.slice A1 p.length c1) := ((bcell hal).1 b1 _ HBl3.out).trans q1k
                have HHo : Hid (Calls Tryd.prog 19 #[.slice (some ⟨wr.heap.size, 0, none⟩) 1 1, .slice A1 p.length c1] (wr.alloc (Obj.cells #[.slice A6 p6.length c6] 32)).drew fun e w' => e = .returned (.bool vb) ∧ w' = (wr.alloc (Obj.cells #[.slice A6 p6.length c6] 32)).drew) := Lib.hid (by
                  have h := refHolds9 [p6] p (some ⟨wr.heap.size, 0, none⟩) A1 1 1 p.length c1 (wr.alloc (Obj.cells #[.slice A6 p6.length c6] 32)).drew ((one_at (T := 32) HP6.out).drewN 1) ((HPk.out.next hal).drewN 1)
                  rw [holds_one, HVb.out] at h
                  exact h)
                have HBa : Hid (Below ws.heap.size ws (wr.alloc (Obj.cells #[.slice A6 p6.length c6] 32)).drew) := Lib.hid (below_dn (HBk.out.trans (hal.mono HBk.out.size)) 1)
                clear hal
                go_wp2_with fail
                go_region_held3 (fun w' => w'.cell? ⟨b1, o1 + k, none⟩ = some (.slice A6 p6.length c6) ∧ w'.cell? ⟨b1, o1 + i, none⟩ = some (.slice A1 p.length c1))
                  (first | go_keep | exact ⟨s1, s2⟩ | fail)
                  ((go_at_call 19
                    (with_reducible refine HHo.out.mono ?_)
                    rintro e w3 ⟨rfl, rfl⟩))
                cases vb
                · clear s1 s2 q1k q6
                  go_wp2_with fail
                  go_roundw
                  case rel => exact ⟨k + 1, by omega, by go_num, HBa, Lib.hid (by rw [HAk1.out, HVb.out]; rfl)⟩
                  case measure => simp [intOf]; omega
                · have HF : Hid (fmS f = false) := Lib.hid (HNot.out (by rw [HOk3.out]; exact HNo.out (by rw [HVb.out]; rfl)))
                  go_wp2_with fail
                  go_ret
                  refine ⟨?_, HBs.out.trans (HBa.out.mono HBs.out.size)⟩
                  rw [HF.out]; rfl
              · obtain rfl : k = i := by omega
                go_wp2_with fail
                refine ⟨⟨k + 1, by omega, by go_num, Lib.hid (HBs.out.trans (HBk.out.mono HBs.out.size)), Lib.hid (by rw [HSt.out, HOk3.out]; exact HAk.out)⟩, by simp [intOf]; omega⟩
          · obtain ⟨i1, hi1⟩ : ∃ i1, i1 = i - 1 := ⟨_, rfl⟩
            obtain ⟨b5, o5, A5, c5, e5, _, q5, hp5⟩ := HIr.out.at i1 (by omega)
            injection e5 with e5
            injection e5 with e5 e6 _
            subst e5 e6
            have e1 : IntKind.i64.wrap ((i : Int) - 1) = (i1 : Int) := by rw [IntKind.wrap_i64]; omega
            have h5 : (0 : Int) ≤ (i1 : Int) := by omega
            have h6 : (i1 : Int) < (f.length : Int) := by omega
            have h03 : (0 : Int) < (i : Int) := by omega
            rw [← hi1] at HOk2
            obtain ⟨p5, hp5e⟩ : ∃ p5, paAt f i1 = p5 := ⟨_, rfl⟩
            rw [hp5e] at HOk2 q5 hp5
            obtain ⟨lv, hlv⟩ : ∃ lv, lessS p5 p = lv := ⟨_, rfl⟩
            have HLs : Hid (∀ a : Nat, Calls Tryd.prog 18 #[.slice A5 p5.length c5, .slice A1 p.length c1] (wo.drewN a) fun e w' => e = .returned (.bool lv) ∧ ∃ q', w' = (wo.drewN a).drewN q') := Lib.hid (fun a => by rw [← hlv]; exact refLess9 p5 p A5 A1 _ c5 _ c1 _ (hp5.drewN a) (HP.out.drewN a))
            rw [hlv, decide_eq_false (show ¬ i = 0 by omega)] at HOk2
            clear hp5 hp5e hlv hi1 h0
            cases lv
            · have HF : Hid (fmS f = false) := Lib.hid (HNot.out (by rw [HOk2.out]; rfl))
              go_wp2_with fail
              go_quiet (exact (HLs.out _).mono (fun _ _ h => ⟨h.1, quiet_sum h.2⟩))
              go_wp2_with fail
              go_ret
              refine ⟨?_, ?_⟩
              · rw [HF.out]; rfl
              · simp only [World.drewN_drewN]; exact below_dn HB.out _
            · have HOk3 : Hid (okAt f i = apartTo f i i) := Lib.hid (by rw [HOk2.out]; rfl)
              go_wp2_with fail
              go_quiet (exact (HLs.out _).mono (fun _ _ h => ⟨h.1, quiet_sum h.2⟩))
              clear e1
              go_wp2_with fail
              have HBs : Hid (Below w.heap.size w (wo.drewN (q + nq))) := Lib.hid (below_dn HB.out _)
              obtain ⟨ws, hws⟩ : ∃ ws, ws = wo.drewN (q + nq) := ⟨_, rfl⟩
              have HIs : Hid (FmAt ws (.slice (some ⟨b1, o1, none⟩) f.length c) f) := Lib.hid (by rw [hws]; exact HIr.out.drewN _)
              have HPs : Hid (IntsAt ws (.slice A1 p.length c1) p) := Lib.hid (by rw [hws]; exact HP.out.drewN _)
              have q1s : ws.cell? ⟨b1, o1 + i, none⟩ = some (.slice A1 p.length c1) := by rw [hws]; exact q1
              have hb1s : b1 < ws.heap.size := by rw [hws]; exact HBl.out
              rw [← hws] at HBs
              first | rw [← hws] | rw [World.drewN_drewN, ← hws]
              have HBl2 := Lib.hid hb1s
              clear hws q1 hb1s HIr HP
              go_loopw [66] (fun v wr => ∃ k : Nat, k ≤ i ∧ v = .int .i64 k ∧ Hid (Below ws.heap.size ws wr) ∧ Hid (apartTo f i k = true)) (fun v _ => i - (intOf v).toNat)
              case atStart => exact ⟨0, Nat.zero_le _, rfl, Lib.hid (Below.refl _ _), Lib.hid rfl⟩
              case round =>
                obtain ⟨k, hk, rfl, HBk, HAk⟩ := hrel
                by_cases hki : k < i
                · have h7 : (0 : Int) ≤ (k : Int) := by omega
                  have h8 : (k : Int) < (i : Int) := by omega
                  have h9 : (k : Int) < (f.length : Int) := by omega
                  have HIk := Lib.hid (HIs.out.next HBk.out)
                  have HPk := Lib.hid (HPs.out.next HBk.out)
                  have q1k : wr.cell? ⟨b1, o1 + i, none⟩ = some (.slice A1 p.length c1) := ((bcell HBk.out).1 b1 _ HBl2.out).trans q1s
                  obtain ⟨b6, o6, A6, c6, e6, _, q6, hp6⟩ := HIk.out.at k (by omega)
                  injection e6 with e6
                  injection e6 with e6 e7 _
                  subst e6 e7
                  have hak : apartTo f i (k + 1) = !partS (paAt f k) p := by have := HAk.out; rw [HAp.out] at this ⊢; rw [range_all, this, Bool.true_and]
                  have hno : (!partS (paAt f k) p) = false → apartTo f i i = false := fun e => by rw [HAp.out]; exact range_no (g := fun j => !partS (paAt f j) p) e hki
                  obtain ⟨p6, hp6e⟩ : ∃ p6, paAt f k = p6 := ⟨_, rfl⟩
                  rw [hp6e] at q6 hp6 hak hno
                  have HP6 := Lib.hid hp6
                  have HAk1 := Lib.hid hak
                  have HNo := Lib.hid hno
                  have HBl3 : Hid (b1 < wr.heap.size) := Lib.hid (Nat.lt_of_lt_of_le HBl2.out HBk.out.size)
                  obtain ⟨vb, hvb⟩ : ∃ vb, partS p6 p = vb := ⟨_, rfl⟩
                  have HVb := Lib.hid hvb
                  clear hp6 hp6e hak hno hvb q1s
                  have hal : Below wr.heap.size wr (wr.alloc (Obj.cells #[.slice A6 p6.length c6] 32)) := (Below.refl _ _).alloc (Nat.le_refl _) _
                  have s1 : (wr.alloc (Obj.cells #[.slice A6 p6.length c6] 32)).cell? ⟨b1, o1 + k, none⟩ = some (.slice A6 p6.length c6) := ((bcell hal).1 b1 _ HBl3.out).trans q6
                  have s2 : (wr.alloc (Obj.cells #[.slice A6 p6.length c6] 32)).cell? ⟨b1, o1 + i, none⟩ = some (.slice A1 p.length c1) := ((bcell hal).1 b1 _ HBl3.out).trans q1k
                  have HHo : Hid (Calls Tryd.prog 19 #[.slice (some ⟨wr.heap.size, 0, none⟩) 1 1, .slice A1 p.length c1] (wr.alloc (Obj.cells #[.slice A6 p6.length c6] 32)).drew fun e w' => e = .returned (.bool vb) ∧ w' = (wr.alloc (Obj.cells #[.slice A6 p6.length c6] 32)).drew) := Lib.hid (by
                    have h := refHolds9 [p6] p (some ⟨wr.heap.size, 0, none⟩) A1 1 1 p.length c1 (wr.alloc (Obj.cells #[.slice A6 p6.length c6] 32)).drew ((one_at (T := 32) HP6.out).drewN 1) ((HPk.out.next hal).drewN 1)
                    rw [holds_one, HVb.out] at h
                    exact h)
                  have HBa : Hid (Below ws.heap.size ws (wr.alloc (Obj.cells #[.slice A6 p6.length c6] 32)).drew) := Lib.hid (below_dn (HBk.out.trans (hal.mono HBk.out.size)) 1)
                  clear hal
                  go_wp2_with fail
                  go_region_held3 (fun w' => w'.cell? ⟨b1, o1 + k, none⟩ = some (.slice A6 p6.length c6) ∧ w'.cell? ⟨b1, o1 + i, none⟩ = some (.slice A1 p.length c1))
                    (first | go_keep | exact ⟨s1, s2⟩ | fail)
                    ((go_at_call 19
                      (with_reducible refine HHo.out.mono ?_)
                      rintro e w3 ⟨rfl, rfl⟩))
                  cases vb
                  · clear s1 s2 q1k q6
                    go_wp2_with fail
                    go_roundw
                    case rel => exact ⟨k + 1, by omega, by go_num, HBa, Lib.hid (by rw [HAk1.out, HVb.out]; rfl)⟩
                    case measure => simp [intOf]; omega
                  · have HF : Hid (fmS f = false) := Lib.hid (HNot.out (by rw [HOk3.out]; exact HNo.out (by rw [HVb.out]; rfl)))
                    go_wp2_with fail
                    go_ret
                    refine ⟨?_, HBs.out.trans (HBa.out.mono HBs.out.size)⟩
                    rw [HF.out]; rfl
                · obtain rfl : k = i := by omega
                  go_wp2_with fail
                  refine ⟨⟨k + 1, by omega, by go_num, Lib.hid (HBs.out.trans (HBk.out.mono HBs.out.size)), Lib.hid (by rw [HSt.out, HOk3.out]; exact HAk.out)⟩, by simp [intOf]; omega⟩
    · obtain rfl : i = f.length := by omega
      go_wp2_with fail
      go_ret
      refine ⟨?_, HB.out⟩
      rw [show fmS f = true from HE.out]; rfl

end Go.Proofs.YtehokjaojanieaaDoor
