/- Joined: LwOr, LwAndM. -/
import Derived.Test.YthifbaacmohmnaaGreatMbb
import Derived.Test.YthifbaacmohmnaaGreatMao
/- or of package linear: what one of a list says. -/
namespace Go.Proofs.YthifbaacmohmnaaGreat
open Go.RowKit
set_option linter.unusedSimpArgs false
set_option linter.unusedVariables false

/-- A list of numbers that stays whatever else turns. -/
def KeepsL (X : Nat → Prop) (w : World) (v : Value) (l : List Int) : Prop := ∀ w', OffF X w w' → IntsAt w' v l
theorem KeepsL.here {X : Nat → Prop} {w : World} {v : Value} {l : List Int} (h : KeepsL X w v l) : IntsAt w v l := h w (OffF.of (Below.refl _ w))
theorem KeepsL.step {X X' : Nat → Prop} {w w1 : World} {v : Value} {l : List Int} (h : KeepsL X w v l) (ho : OffF X w w1) (hl : ∀ b, X' b → X b ∨ w.heap.size ≤ b) : KeepsL X' w1 v l := fun w' q => h w' (ho.off q hl)
theorem KeepsL.grow {p : LP} {w w1 : World} {ns ns1 : List Nd} {F F1 : Nat → Prop} {many many1 : Bool} {v : Value} {l : List Int} (h : KeepsL (XY p F) w v l) (g : Grow p w ns F many w1 ns1 F1 many1) : KeepsL (XY p F1) w1 v l := h.step g.off.xy g.xylow
/-- What a function value of one number does, wherever a walk has come to. -/
def OfIs (p : LP) (w : World) (ns : List Nd) (F : Nat → Prop) (many : Bool) (fn : Nat) (args : Int → Array Value) (l : List Int) (V : List Nat → List Nat → Nat → Nat → Prop) (s : Nat) (val : Int → List Nat → List Nat → Nat → Nat → Bool) : Prop :=
  ∀ (y' : Nat → Prop) (w1 : World) (ns1 : List Nd) (F1 : Nat → Prop) (many1 : Bool) (x : Int), x ∈ l → Grow { p with y := y' } w ns F many w1 ns1 F1 many1 → Calls Tryz.prog fn (args x) w1 (LAns { p with y := y' } w1 ns1 F1 many1 fun ms f => Den V s (val x) ms f)
theorem take_any {l : List Int} {i : Nat} (h : i < l.length) (f : Int → Bool) : (l.take (i + 1)).any f = ((l.take i).any f || f l[i]) := by
  rw [List.take_add_one, List.getElem?_eq_getElem h, List.any_append]
  simp
theorem den_true {V : List Nat → List Nat → Nat → Nat → Prop} {s : Nat} {val : Int → List Nat → List Nat → Nat → Nat → Bool} {ms : List Nd} {l : List Int} {i : Nat} (h : Den V s (fun a b c d => (l.take i).any (fun x => val x a b c d)) ms [[]]) : Den V s (fun a b c d => l.any (fun x => val x a b c d)) ms [[]] := fun a b c d hv => by
  have := h a b c d hv
  rw [fP_true] at this
  rw [fP_true]
  obtain ⟨x, hx, hx2⟩ := List.any_eq_true.1 this.symm
  exact (List.any_eq_true.2 ⟨x, List.mem_of_mem_take hx, hx2⟩).symm
section
variable {p : LP} {w : World} {ns : List Nd} {F : Nat → Prop} {many : Bool}
set_option maxRecDepth 100000 in
set_option maxHeartbeats 8000000 in
theorem lOrFormula {l : List Int} {v : Value} (h : LW p w ns F many) (hl : KeepsL (XY p F) w v l) {V : List Nat → List Nat → Nat → Nat → Prop} {s : Nat} {val : Int → List Nat → List Nat → Nat → Nat → Bool}
    (hof : OfIs p w ns F many 27 (fun x => #[.pointer (some ⟨p.gw, 0, none⟩), .int .i64 x]) l V s val) :
    Calls Tryz.prog 94 #[.pointer (some ⟨p.gw, 0, none⟩), v, .func (.func 27) #[.pointer (some ⟨p.gw, 0, none⟩)] #[]] w (LAns p w ns F many fun ms f => Den V s (fun a b c d => l.any (fun x => val x a b c d)) ms f) := by
  obtain ⟨A, c, rfl, hlc, hc63, _⟩ := hl.here
  have HW := Lib.hid h
  have HL := Lib.hid hl
  have HOf := Lib.hid hof
  have hl63 : l.length ≤ 9223372036854775807 := by omega
  clear h hl hof hlc hc63
  go_enter Tryz.func94, Tryz.ntmps94
  go_wp2_with fail
  refine (lFalse w).mono ?_
  rintro e w1 ⟨A1, c1, rfl, hf1, hb1⟩
  have HG1 := Lib.hid (Grow.of HW.out hb1)
  have HK1 := Lib.hid (FmFrom.keeps HW.out hf1)
  clear hf1 hb1
  go_wp2_with fail
  go_loopw [7, 13] (fun u v wr => ∃ (i : Nat) (f : Fm) (ns1 : List Nd) (F1 : Nat → Prop) (many1 : Bool), i ≤ l.length ∧ v = .int .i64 i ∧ Hid (Grow p w ns F many wr ns1 F1 many1) ∧ Hid (Keeps (XY p F1) wr u f) ∧ Hid (FmIn (Ls ns1) f) ∧ Hid (many1 = false → Den V s (fun a b c d => (l.take i).any (fun x => val x a b c d)) ns1 f)) (fun _ v _ => l.length - (intOf v).toNat)
  case atStart => exact ⟨0, [], ns, F, many, Nat.zero_le _, rfl, HG1, HK1, Lib.hid (FmIn.nil _), Lib.hid (fun _ a b c d _ => rfl)⟩
  case round =>
    clear HG1 HK1
    obtain ⟨i, f, ns1, F1, many1, hi, rfl, HG, HK, HI, HD⟩ := hrel
    obtain ⟨A7, c7', hu⟩ := HK.out.at
    subst hu
    by_cases hlt : i < l.length
    · have h1 : (0 : Int) ≤ (i : Int) := by omega
      have h2 : (i : Int) < (l.length : Int) := by omega
      obtain ⟨b, off, rfl, hbl, q0⟩ := (HL.out.grow HG.out).here.at i hlt
      obtain ⟨x, hx⟩ : ∃ x, inAt l i = x := ⟨_, rfl⟩
      rw [hx] at q0
      have hxe : l[i] = x := by rw [← hx, inAt_lt hlt]
      have HX : Hid (l[i] = x) := Lib.hid hxe
      have HXm : Hid (x ∈ l) := Lib.hid (by rw [← hxe]; exact List.getElem_mem hlt)
      have c7 := HG.out.lw.cells.2.2.2.2.2.2.2
      clear hx hxe hbl
      cases many1
      · have HT := Lib.hid (lIsTrue f _ wr HK.out.here)
        by_cases hf : f = [[]]
        · have hfd : decide (f = [[]]) = true := decide_eq_true hf
          rw [hfd] at HT
          have HF := Lib.hid hf
          clear hf hfd
          go_wp2_with fail
          refine HT.out.mono ?_
          rintro e w2 ⟨rfl, hw2⟩
          obtain rfl : wr = w2 := hw2.symm
          go_wp2_with fail
          go_ret
          exact LAns.done HG.out HK.out HI.out (fun _ => by have := HD.out (by trivial); rw [HF.out] at this ⊢; exact den_true this)
        · have hfd : decide (f = [[]]) = false := decide_eq_false hf
          rw [hfd] at HT
          clear hf hfd
          go_wp2_with fail
          refine HT.out.mono ?_
          rintro e w2 ⟨rfl, hw2⟩
          obtain rfl : wr = w2 := hw2.symm
          have HC := Lib.hid (HOf.out p.y wr ns1 F1 false x HXm.out HG.out)
          go_wp2_with fail
          refine HC.out.mono ?_
          rintro e w3 ⟨v3, g, ns3, F3, many3, rfl, hg3, hk3, hi3, hd3⟩
          have HG3 := Lib.hid (HG.out.trans hg3)
          have HG13 := Lib.hid hg3
          have HK3 := Lib.hid (HK.out.grow hg3)
          have HI3 := Lib.hid hi3
          have HD3 := Lib.hid hd3
          have HKg := Lib.hid hk3
          have HE := Lib.hid (lEither hg3.lw (HK.out.grow hg3) hk3 (hg3.fm HI.out) hi3)
          obtain ⟨A3, c3, hv3⟩ := hk3.at
          subst hv3
          clear hg3 hk3 hi3 hd3 q0 c7
          go_wp2_with fail
          refine HE.out.mono ?_
          rintro e w4 ⟨v4, g4, ns4, F4, many4, rfl, hg4, hk4, hi4, hd4⟩
          obtain ⟨A4, c4, hv4⟩ := hk4.at
          subst hv4
          have HG4 := Lib.hid hg4
          have HK4 := Lib.hid hk4
          have HI4 := Lib.hid hi4
          have HD4 := Lib.hid hd4
          clear hg4 hk4 hi4 hd4
          go_wp2_with fail
          refine ⟨⟨i + 1, g4, ns4, F4, many4, by omega, by go_num, Lib.hid (HG3.out.trans HG4.out), HK4, HI4, Lib.hid (fun hm a b c d hv => ?_)⟩, by simp [intOf]; omega⟩
          have hm3 : many3 = false := by cases many3 with | false => rfl | true => have := HG4.out.mono rfl; rw [hm] at this; cases this
          show _ = (l.take (i + 1)).any (fun x => val x a b c d)
          rw [HD4.out hm, take_any hlt, HX.out]
          have e1 := (HG4.out.den (HG13.out.fm HI.out) (HG13.out.den HI.out (HD.out (by trivial)))) a b c d hv
          have e2 := (HG4.out.den HI3.out (HD3.out hm3)) a b c d hv
          rw [e1, e2]
      · go_wp2_with fail
        go_ret
        exact LAns.done HG.out HK.out HI.out (fun q => by cases q)
    · obtain rfl : i = l.length := by omega
      go_wp2_with fail
      go_ret
      exact LAns.done HG.out HK.out HI.out (fun hm => by have := HD.out hm; rw [List.take_length] at this; exact this)

set_option maxRecDepth 100000 in
set_option maxHeartbeats 8000000 in
theorem lOrOpposite {l : List Int} {v : Value} (h : LW p w ns F many) (hl : KeepsL (XY p F) w v l) {V : List Nat → List Nat → Nat → Nat → Prop} {s : Nat} {val : Int → List Nat → List Nat → Nat → Nat → Bool}
    (hof : OfIs p w ns F many 114 (fun x => #[.pointer (some ⟨p.gw, 0, none⟩), .int .i64 x]) l V s val) :
    Calls Tryz.prog 94 #[.pointer (some ⟨p.gw, 0, none⟩), v, .func (.func 114) #[.pointer (some ⟨p.gw, 0, none⟩)] #[]] w (LAns p w ns F many fun ms f => Den V s (fun a b c d => l.any (fun x => val x a b c d)) ms f) := by
  obtain ⟨A, c, rfl, hlc, hc63, _⟩ := hl.here
  have HW := Lib.hid h
  have HL := Lib.hid hl
  have HOf := Lib.hid hof
  have hl63 : l.length ≤ 9223372036854775807 := by omega
  clear h hl hof hlc hc63
  go_enter Tryz.func94, Tryz.ntmps94
  go_wp2_with fail
  refine (lFalse w).mono ?_
  rintro e w1 ⟨A1, c1, rfl, hf1, hb1⟩
  have HG1 := Lib.hid (Grow.of HW.out hb1)
  have HK1 := Lib.hid (FmFrom.keeps HW.out hf1)
  clear hf1 hb1
  go_wp2_with fail
  go_loopw [7, 13] (fun u v wr => ∃ (i : Nat) (f : Fm) (ns1 : List Nd) (F1 : Nat → Prop) (many1 : Bool), i ≤ l.length ∧ v = .int .i64 i ∧ Hid (Grow p w ns F many wr ns1 F1 many1) ∧ Hid (Keeps (XY p F1) wr u f) ∧ Hid (FmIn (Ls ns1) f) ∧ Hid (many1 = false → Den V s (fun a b c d => (l.take i).any (fun x => val x a b c d)) ns1 f)) (fun _ v _ => l.length - (intOf v).toNat)
  case atStart => exact ⟨0, [], ns, F, many, Nat.zero_le _, rfl, HG1, HK1, Lib.hid (FmIn.nil _), Lib.hid (fun _ a b c d _ => rfl)⟩
  case round =>
    clear HG1 HK1
    obtain ⟨i, f, ns1, F1, many1, hi, rfl, HG, HK, HI, HD⟩ := hrel
    obtain ⟨A7, c7', hu⟩ := HK.out.at
    subst hu
    by_cases hlt : i < l.length
    · have h1 : (0 : Int) ≤ (i : Int) := by omega
      have h2 : (i : Int) < (l.length : Int) := by omega
      obtain ⟨b, off, rfl, hbl, q0⟩ := (HL.out.grow HG.out).here.at i hlt
      obtain ⟨x, hx⟩ : ∃ x, inAt l i = x := ⟨_, rfl⟩
      rw [hx] at q0
      have hxe : l[i] = x := by rw [← hx, inAt_lt hlt]
      have HX : Hid (l[i] = x) := Lib.hid hxe
      have HXm : Hid (x ∈ l) := Lib.hid (by rw [← hxe]; exact List.getElem_mem hlt)
      have c7 := HG.out.lw.cells.2.2.2.2.2.2.2
      clear hx hxe hbl
      cases many1
      · have HT := Lib.hid (lIsTrue f _ wr HK.out.here)
        by_cases hf : f = [[]]
        · have hfd : decide (f = [[]]) = true := decide_eq_true hf
          rw [hfd] at HT
          have HF := Lib.hid hf
          clear hf hfd
          go_wp2_with fail
          refine HT.out.mono ?_
          rintro e w2 ⟨rfl, hw2⟩
          obtain rfl : wr = w2 := hw2.symm
          go_wp2_with fail
          go_ret
          exact LAns.done HG.out HK.out HI.out (fun _ => by have := HD.out (by trivial); rw [HF.out] at this ⊢; exact den_true this)
        · have hfd : decide (f = [[]]) = false := decide_eq_false hf
          rw [hfd] at HT
          clear hf hfd
          go_wp2_with fail
          refine HT.out.mono ?_
          rintro e w2 ⟨rfl, hw2⟩
          obtain rfl : wr = w2 := hw2.symm
          have HC := Lib.hid (HOf.out p.y wr ns1 F1 false x HXm.out HG.out)
          go_wp2_with fail
          refine HC.out.mono ?_
          rintro e w3 ⟨v3, g, ns3, F3, many3, rfl, hg3, hk3, hi3, hd3⟩
          have HG3 := Lib.hid (HG.out.trans hg3)
          have HG13 := Lib.hid hg3
          have HK3 := Lib.hid (HK.out.grow hg3)
          have HI3 := Lib.hid hi3
          have HD3 := Lib.hid hd3
          have HKg := Lib.hid hk3
          have HE := Lib.hid (lEither hg3.lw (HK.out.grow hg3) hk3 (hg3.fm HI.out) hi3)
          obtain ⟨A3, c3, hv3⟩ := hk3.at
          subst hv3
          clear hg3 hk3 hi3 hd3 q0 c7
          go_wp2_with fail
          refine HE.out.mono ?_
          rintro e w4 ⟨v4, g4, ns4, F4, many4, rfl, hg4, hk4, hi4, hd4⟩
          obtain ⟨A4, c4, hv4⟩ := hk4.at
          subst hv4
          have HG4 := Lib.hid hg4
          have HK4 := Lib.hid hk4
          have HI4 := Lib.hid hi4
          have HD4 := Lib.hid hd4
          clear hg4 hk4 hi4 hd4
          go_wp2_with fail
          refine ⟨⟨i + 1, g4, ns4, F4, many4, by omega, by go_num, Lib.hid (HG3.out.trans HG4.out), HK4, HI4, Lib.hid (fun hm a b c d hv => ?_)⟩, by simp [intOf]; omega⟩
          have hm3 : many3 = false := by cases many3 with | false => rfl | true => have := HG4.out.mono rfl; rw [hm] at this; cases this
          show _ = (l.take (i + 1)).any (fun x => val x a b c d)
          rw [HD4.out hm, take_any hlt, HX.out]
          have e1 := (HG4.out.den (HG13.out.fm HI.out) (HG13.out.den HI.out (HD.out (by trivial)))) a b c d hv
          have e2 := (HG4.out.den HI3.out (HD3.out hm3)) a b c d hv
          rw [e1, e2]
      · go_wp2_with fail
        go_ret
        exact LAns.done HG.out HK.out HI.out (fun q => by cases q)
    · obtain rfl : i = l.length := by omega
      go_wp2_with fail
      go_ret
      exact LAns.done HG.out HK.out HI.out (fun hm => by have := HD.out hm; rw [List.take_length] at this; exact this)

set_option maxRecDepth 100000 in
set_option maxHeartbeats 8000000 in
theorem lOrLeft {l : List Int} {v : Value} (h : LW p w ns F many) (hl : KeepsL (XY p F) w v l) {V : List Nat → List Nat → Nat → Nat → Prop} {s : Nat} {val : Int → List Nat → List Nat → Nat → Nat → Bool}
    (hof : OfIs p w ns F many 44 (fun x => #[.pointer (some ⟨p.gw, 0, none⟩), .int .i64 x]) l V s val) :
    Calls Tryz.prog 94 #[.pointer (some ⟨p.gw, 0, none⟩), v, .func (.func 44) #[.pointer (some ⟨p.gw, 0, none⟩)] #[]] w (LAns p w ns F many fun ms f => Den V s (fun a b c d => l.any (fun x => val x a b c d)) ms f) := by
  obtain ⟨A, c, rfl, hlc, hc63, _⟩ := hl.here
  have HW := Lib.hid h
  have HL := Lib.hid hl
  have HOf := Lib.hid hof
  have hl63 : l.length ≤ 9223372036854775807 := by omega
  clear h hl hof hlc hc63
  go_enter Tryz.func94, Tryz.ntmps94
  go_wp2_with fail
  refine (lFalse w).mono ?_
  rintro e w1 ⟨A1, c1, rfl, hf1, hb1⟩
  have HG1 := Lib.hid (Grow.of HW.out hb1)
  have HK1 := Lib.hid (FmFrom.keeps HW.out hf1)
  clear hf1 hb1
  go_wp2_with fail
  go_loopw [7, 13] (fun u v wr => ∃ (i : Nat) (f : Fm) (ns1 : List Nd) (F1 : Nat → Prop) (many1 : Bool), i ≤ l.length ∧ v = .int .i64 i ∧ Hid (Grow p w ns F many wr ns1 F1 many1) ∧ Hid (Keeps (XY p F1) wr u f) ∧ Hid (FmIn (Ls ns1) f) ∧ Hid (many1 = false → Den V s (fun a b c d => (l.take i).any (fun x => val x a b c d)) ns1 f)) (fun _ v _ => l.length - (intOf v).toNat)
  case atStart => exact ⟨0, [], ns, F, many, Nat.zero_le _, rfl, HG1, HK1, Lib.hid (FmIn.nil _), Lib.hid (fun _ a b c d _ => rfl)⟩
  case round =>
    clear HG1 HK1
    obtain ⟨i, f, ns1, F1, many1, hi, rfl, HG, HK, HI, HD⟩ := hrel
    obtain ⟨A7, c7', hu⟩ := HK.out.at
    subst hu
    by_cases hlt : i < l.length
    · have h1 : (0 : Int) ≤ (i : Int) := by omega
      have h2 : (i : Int) < (l.length : Int) := by omega
      obtain ⟨b, off, rfl, hbl, q0⟩ := (HL.out.grow HG.out).here.at i hlt
      obtain ⟨x, hx⟩ : ∃ x, inAt l i = x := ⟨_, rfl⟩
      rw [hx] at q0
      have hxe : l[i] = x := by rw [← hx, inAt_lt hlt]
      have HX : Hid (l[i] = x) := Lib.hid hxe
      have HXm : Hid (x ∈ l) := Lib.hid (by rw [← hxe]; exact List.getElem_mem hlt)
      have c7 := HG.out.lw.cells.2.2.2.2.2.2.2
      clear hx hxe hbl
      cases many1
      · have HT := Lib.hid (lIsTrue f _ wr HK.out.here)
        by_cases hf : f = [[]]
        · have hfd : decide (f = [[]]) = true := decide_eq_true hf
          rw [hfd] at HT
          have HF := Lib.hid hf
          clear hf hfd
          go_wp2_with fail
          refine HT.out.mono ?_
          rintro e w2 ⟨rfl, hw2⟩
          obtain rfl : wr = w2 := hw2.symm
          go_wp2_with fail
          go_ret
          exact LAns.done HG.out HK.out HI.out (fun _ => by have := HD.out (by trivial); rw [HF.out] at this ⊢; exact den_true this)
        · have hfd : decide (f = [[]]) = false := decide_eq_false hf
          rw [hfd] at HT
          clear hf hfd
          go_wp2_with fail
          refine HT.out.mono ?_
          rintro e w2 ⟨rfl, hw2⟩
          obtain rfl : wr = w2 := hw2.symm
          have HC := Lib.hid (HOf.out p.y wr ns1 F1 false x HXm.out HG.out)
          go_wp2_with fail
          refine HC.out.mono ?_
          rintro e w3 ⟨v3, g, ns3, F3, many3, rfl, hg3, hk3, hi3, hd3⟩
          have HG3 := Lib.hid (HG.out.trans hg3)
          have HG13 := Lib.hid hg3
          have HK3 := Lib.hid (HK.out.grow hg3)
          have HI3 := Lib.hid hi3
          have HD3 := Lib.hid hd3
          have HKg := Lib.hid hk3
          have HE := Lib.hid (lEither hg3.lw (HK.out.grow hg3) hk3 (hg3.fm HI.out) hi3)
          obtain ⟨A3, c3, hv3⟩ := hk3.at
          subst hv3
          clear hg3 hk3 hi3 hd3 q0 c7
          go_wp2_with fail
          refine HE.out.mono ?_
          rintro e w4 ⟨v4, g4, ns4, F4, many4, rfl, hg4, hk4, hi4, hd4⟩
          obtain ⟨A4, c4, hv4⟩ := hk4.at
          subst hv4
          have HG4 := Lib.hid hg4
          have HK4 := Lib.hid hk4
          have HI4 := Lib.hid hi4
          have HD4 := Lib.hid hd4
          clear hg4 hk4 hi4 hd4
          go_wp2_with fail
          refine ⟨⟨i + 1, g4, ns4, F4, many4, by omega, by go_num, Lib.hid (HG3.out.trans HG4.out), HK4, HI4, Lib.hid (fun hm a b c d hv => ?_)⟩, by simp [intOf]; omega⟩
          have hm3 : many3 = false := by cases many3 with | false => rfl | true => have := HG4.out.mono rfl; rw [hm] at this; cases this
          show _ = (l.take (i + 1)).any (fun x => val x a b c d)
          rw [HD4.out hm, take_any hlt, HX.out]
          have e1 := (HG4.out.den (HG13.out.fm HI.out) (HG13.out.den HI.out (HD.out (by trivial)))) a b c d hv
          have e2 := (HG4.out.den HI3.out (HD3.out hm3)) a b c d hv
          rw [e1, e2]
      · go_wp2_with fail
        go_ret
        exact LAns.done HG.out HK.out HI.out (fun q => by cases q)
    · obtain rfl : i = l.length := by omega
      go_wp2_with fail
      go_ret
      exact LAns.done HG.out HK.out HI.out (fun hm => by have := HD.out hm; rw [List.take_length] at this; exact this)

end

end Go.Proofs.YthifbaacmohmnaaGreat

/- Between two rounds of and of package linear. -/
namespace Go.Proofs.YthifbaacmohmnaaGreat
open Go.RowKit
set_option linter.unusedSimpArgs false
set_option linter.unusedVariables false

theorem own_off {X : Nat → Prop} {w w' : World} {base sz n : Nat} {E : TypeId} {v : Value} {xs : List Value} (h : w.ownsRow base E sz v n xs) (ho : OffF X w w') (hn : ∀ b, v.ownBlock = some b → ¬ X b) : w'.ownsRow base E sz v n xs := by
  obtain ⟨h1, h2⟩ := id h
  refine ⟨h1, ?_⟩
  rcases h2 with hn' | ⟨g, cap, cur, hv, hbg, hc, rest⟩
  · exact .inl hn'
  · refine .inr ⟨g, cap, cur, hv, hbg, ?_, rest⟩
    exact (ho.block g (World.ownsRow.lt h g (by rw [hv]; rfl)).2 (hn g (by rw [hv]; rfl))).trans hc
theorem own_grown {w w' : World} {base sz n : Nat} {E : TypeId} {v : Value} {xs : List Value} {row : Option Nat} (h : w.ownsRow base E sz v n xs) (hg : w.grownBy w' row) (hn : ∀ b, v.ownBlock = some b → row ≠ some b) : w'.ownsRow base E sz v n xs :=
  own_off (X := fun b => row = some b) h ⟨hg.os, hg.tape, hg.output, hg.size, fun b hb q => hg.block b hb (fun e => q e.symm)⟩ (fun b e q => hn b e q)
theorem info_fm : (Tryz.prog.info? 29).map (fun i => (i.zero, i.size, i.bytes)) = some (some (.slice none 0 0), 1, 24) := by kernel_rfl
theorem one_src (w : World) (A : Option Addr) (n c : Nat) : Src (w.alloc (.cells #[.slice A n c] 29)) 1 (.slice (some ⟨w.heap.size, 0, none⟩) 1 1) 1 [.slice A n c] := by
  have hA := At.new w 29 #[.slice A n c]
  refine ⟨_, 1, rfl, Nat.le_refl _, by omega, rfl, (fun u hu => by rw [List.mem_singleton.1 hu]; rfl), fun _ => ⟨_, 0, rfl, hA.lt, fun j u hu => ?_⟩⟩
  match j, hu with
  | 0, hu => injection hu with hu; subst hu; exact hA.cell 0
  | j + 1, hu => simp at hu
theorem take_all {l : List Int} {i : Nat} (h : i < l.length) (f : Int → Bool) : (l.take (i + 1)).all f = ((l.take i).all f && f l[i]) := by
  rw [List.take_add_one, List.getElem?_eq_getElem h, List.all_append]
  simp
theorem take_allF {l : List Fm} {i : Nat} (h : i < l.length) (f : Fm → Bool) : (l.take (i + 1)).all f = ((l.take i).all f && f l[i]) := by
  rw [List.take_add_one, List.getElem?_eq_getElem h, List.all_append]
  simp
/-- A row of formulas. -/
structure FRow (X : Nat → Prop) (ns : List Nd) (w : World) (base : Nat) (v : Value) (os : List Value) (fs : List Fm) : Prop where
  own : w.ownsRow base 29 1 v os.length os
  fl : fs.length = os.length
  keep : ∀ k (h : k < fs.length) (h' : k < os.length), Keeps X w os[k] fs[k] ∧ FmIn (Ls ns) fs[k]
/-- What lies in both rows between two rounds. -/
structure AndI (p : LP) (w wr : World) (ns1 : List Nd) (F1 : Nat → Prop) (u7 u8 : Value) (i : Nat) (nums : List Int) (os : List Value) (fs : List Fm) : Prop where
  row : Ints wr w.heap.size u7 nums
  oth : FRow (XY p F1) ns1 wr w.heap.size u8 os fs
  inn : ∀ n ∈ nums, isIn ns1 n
  len : nums.length ≤ i * 20000
  few : os.length ≤ i
  x7 : ∀ b, u7.ownBlock = some b → p.y b ∧ ¬ XB p F1 b
  x8 : ∀ b, u8.ownBlock = some b → p.y b ∧ ¬ XB p F1 b
  ap : ∀ b, u7.ownBlock = some b → u8.ownBlock ≠ some b
section
variable {p : LP} {w : World} {ns : List Nd} {F : Nat → Prop} {many : Bool}
theorem FRow.grow {p : LP} {wr w1 : World} {ns1 ns2 : List Nd} {F1 F2 : Nat → Prop} {m1 m2 : Bool} {base : Nat} {v : Value} {os : List Value} {fs : List Fm} (h : FRow (XY p F1) ns1 wr base v os fs) (g : Grow p wr ns1 F1 m1 w1 ns2 F2 m2) (hx : ∀ b, v.ownBlock = some b → ¬ XB p F1 b) : FRow (XY p F2) ns2 w1 base v os fs :=
  ⟨own_off h.own g.off hx, h.fl, fun k a b => ⟨(h.keep k a b).1.grow g, g.fm (h.keep k a b).2⟩⟩
theorem AndI.grow {wr w1 : World} {ns1 ns2 : List Nd} {F1 F2 : Nat → Prop} {m1 m2 : Bool} {u7 u8 : Value} {i : Nat} {nums : List Int} {os : List Value} {fs : List Fm} (h : AndI p w wr ns1 F1 u7 u8 i nums os fs) (g : Grow p wr ns1 F1 m1 w1 ns2 F2 m2) : AndI p w w1 ns2 F2 u7 u8 i nums os fs :=
  ⟨own_off h.row g.off (fun b e => (h.x7 b e).2), h.oth.grow g (fun b e => (h.x8 b e).2), fun n hn => g.isIn (h.inn n hn), h.len, h.few,
    fun b e => ⟨(h.x7 b e).1, fun q => by rcases g.xlow b q with c | c; exact (h.x7 b e).2 c; (have := (World.ownsRow.lt h.row b e).2; omega)⟩,
    fun b e => ⟨(h.x8 b e).1, fun q => by rcases g.xlow b q with c | c; exact (h.x8 b e).2 c; (have := (World.ownsRow.lt h.oth.own b e).2; omega)⟩, h.ap⟩
/-- What both rows say. -/
def saidBy (nums : List Int) (fs : List Fm) (P : Int → Bool) : Bool := nums.all P && fs.all (fun f => fP P f)
/-- Another one of one part: its numbers. -/
theorem AndI.push {wr w1 : World} {ns1 : List Nd} {F1 : Nat → Prop} {m1 : Bool} {u7 u8 u7' : Value} {i : Nat} {nums q : List Int} {os : List Value} {fs : List Fm} (h : AndI p w wr ns1 F1 u7 u8 i nums os fs) (hw : LW p wr ns1 F1 m1) (hq : FmIn (Ls ns1) [q])
    (hr : w1.ownsRow w.heap.size 3 1 u7' (nums.length + q.length) (nums.map (Value.int .i64) ++ q.map (Value.int .i64))) (hg : wr.grownBy w1 u7.ownBlock) (hat : u7'.ownBlock = u7.ownBlock ∨ u7'.ownBlock = some wr.heap.size) :
    ∃ y' : Nat → Prop, (∀ b, p.y b → y' b) ∧ (∀ b, y' b → p.y b ∨ wr.heap.size ≤ b) ∧ LW { p with y := y' } w1 ns1 F1 m1 ∧ OffF (XY p F1) wr w1 ∧ AndI { p with y := y' } w w1 ns1 F1 u7' u8 (i + 1) (nums ++ q) os fs := by
  have hsz : wr.heap.size ≤ w1.heap.size := hg.size
  have hlw := hw.turnY hg (fun b e => h.x7 b e)
  have ho : OffF (XY p F1) wr w1 := ⟨hg.os, hg.tape, hg.output, hg.size, fun b hb hn => hg.block b hb (fun e => hn (Or.inr (h.x7 b e.symm).1))⟩
  have hrl : ∀ b, u7'.ownBlock = some b → b < w1.heap.size := fun b e => (World.ownsRow.lt hr b e).2
  have hql : q.length ≤ 20000 := by
    have := hq.part (ls_up ns1) (show q ∈ [q] by simp)
    rw [ls_len] at this
    have := hw.few
    omega
  refine ⟨fun b => p.y b ∨ u7'.ownBlock = some b, fun b q => Or.inl q, fun b q => ?_, ?_, ho, ?_⟩
  · rcases q with q | q
    · exact Or.inl q
    · rcases hat with e | e
      · exact Or.inl (h.x7 b (e ▸ q)).1
      · rw [e] at q; injection q with q; exact Or.inr (by omega)
  · have hk : ∀ v f, Keeps (XY p F1) wr v f → Keeps (XY { p with y := fun b => p.y b ∨ u7'.ownBlock = some b } F1) w1 v f := fun v f k => k.step ho (fun b z => by
      rcases z with z | z | z
      · exact Or.inl (Or.inl z)
      · exact Or.inl (Or.inr z)
      · rcases hat with e | e
        · exact Or.inl (Or.inr (h.x7 b (e ▸ z)).1)
        · rw [e] at z; injection z with z; exact Or.inr (by omega))
    have hblk : ∀ b, XB p F1 b → w1.heap[b]? = wr.heap[b]? := fun b z => hg.block b (hw.low b z) (fun e => (h.x7 b e.symm).2 z)
    refine ⟨hlw.ar, hlw.box, hw.fo.mono (hblk _ (Or.inr (Or.inr (Or.inl rfl)))) hk, hw.le.mono (hblk _ (Or.inr (Or.inr (Or.inr (Or.inl rfl))))) hk, hlw.nu, hlw.d, hlw.out, hlw.b8, fun b z => ?_⟩
    rcases z with z | z
    · exact hlw.ylow b z
    · exact hrl b z
  · have hx : ∀ b, u7'.ownBlock = some b → ¬ XB p F1 b := fun b e z => by
      rcases hat with c | c
      · exact (h.x7 b (c ▸ e)).2 z
      · rw [c] at e; injection e with e; have := hw.low b z; omega
    refine ⟨by unfold Ints; rw [List.length_append, List.map_append]; exact hr, ⟨own_grown h.oth.own hg (fun b e z => h.ap b z e), h.oth.fl, fun k a b => ⟨(h.oth.keep k a b).1.step ho (fun b z => ?_), (h.oth.keep k a b).2⟩⟩, fun n hn => ?_, by rw [List.length_append, Nat.succ_mul]; exact Nat.add_le_add h.len hql, Nat.le_succ_of_le h.few, fun b e => ⟨Or.inr e, hx b e⟩, fun b e => ⟨Or.inl (h.x8 b e).1, (h.x8 b e).2⟩, fun b e z => ?_⟩
    · rcases z with z | z | z
      · exact Or.inl (Or.inl z)
      · exact Or.inl (Or.inr z)
      · rcases hat with e | e
        · exact Or.inl (Or.inr (h.x7 b (e ▸ z)).1)
        · rw [e] at z; injection z with z; exact Or.inr (by omega)
    · rcases List.mem_append.1 hn with c | c
      · exact h.inn n c
      · exact ls_mem.1 (hq.inn q (by simp) n c)
    · rcases hat with c | c
      · exact h.ap b (c ▸ e) z
      · rw [c] at e; injection e with e
        have := (World.ownsRow.lt h.oth.own b z).2
        omega
/-- Another one. -/
theorem AndI.pushF {wr w1 : World} {ns1 : List Nd} {F1 : Nat → Prop} {m1 : Bool} {u7 u8 u8' v : Value} {i : Nat} {nums : List Int} {os : List Value} {fs : List Fm} {f : Fm} (h : AndI p w wr ns1 F1 u7 u8 i nums os fs) (hw : LW p wr ns1 F1 m1) (hv : Keeps (XY p F1) wr v f) (hf : FmIn (Ls ns1) f)
    (hr : w1.ownsRow w.heap.size 29 1 u8' (os.length + 1) (os ++ [v])) (hg : wr.grownBy w1 u8.ownBlock) (hat : u8'.ownBlock = u8.ownBlock ∨ u8'.ownBlock = some wr.heap.size) :
    ∃ y' : Nat → Prop, (∀ b, p.y b → y' b) ∧ (∀ b, y' b → p.y b ∨ wr.heap.size ≤ b) ∧ LW { p with y := y' } w1 ns1 F1 m1 ∧ OffF (XY p F1) wr w1 ∧ AndI { p with y := y' } w w1 ns1 F1 u7 u8' (i + 1) nums (os ++ [v]) (fs ++ [f]) := by
  have hsz : wr.heap.size ≤ w1.heap.size := hg.size
  have hlw := hw.turnY hg (fun b e => h.x8 b e)
  have ho : OffF (XY p F1) wr w1 := ⟨hg.os, hg.tape, hg.output, hg.size, fun b hb hn => hg.block b hb (fun e => hn (Or.inr (h.x8 b e.symm).1))⟩
  have hrl : ∀ b, u8'.ownBlock = some b → b < w1.heap.size := fun b e => (World.ownsRow.lt hr b e).2
  have hk : ∀ v f, Keeps (XY p F1) wr v f → Keeps (XY { p with y := fun b => p.y b ∨ u8'.ownBlock = some b } F1) w1 v f := fun v f k => k.step ho (fun b z => by
    rcases z with z | z | z
    · exact Or.inl (Or.inl z)
    · exact Or.inl (Or.inr z)
    · rcases hat with e | e
      · exact Or.inl (Or.inr (h.x8 b (e ▸ z)).1)
      · rw [e] at z; injection z with z; exact Or.inr (by omega))
  have hfl := h.oth.fl
  refine ⟨fun b => p.y b ∨ u8'.ownBlock = some b, fun b q => Or.inl q, fun b q => ?_, ?_, ho, ?_⟩
  · rcases q with q | q
    · exact Or.inl q
    · rcases hat with e | e
      · exact Or.inl (h.x8 b (e ▸ q)).1
      · rw [e] at q; injection q with q; exact Or.inr (by omega)
  · have hblk : ∀ b, XB p F1 b → w1.heap[b]? = wr.heap[b]? := fun b z => hg.block b (hw.low b z) (fun e => (h.x8 b e.symm).2 z)
    refine ⟨hlw.ar, hlw.box, hw.fo.mono (hblk _ (Or.inr (Or.inr (Or.inl rfl)))) hk, hw.le.mono (hblk _ (Or.inr (Or.inr (Or.inr (Or.inl rfl))))) hk, hlw.nu, hlw.d, hlw.out, hlw.b8, fun b z => ?_⟩
    rcases z with z | z
    · exact hlw.ylow b z
    · exact hrl b z
  · have hx : ∀ b, u8'.ownBlock = some b → ¬ XB p F1 b := fun b e z => by
      rcases hat with c | c
      · exact (h.x8 b (c ▸ e)).2 z
      · rw [c] at e; injection e with e; have := hw.low b z; omega
    have hl1 : nums.length ≤ (i + 1) * 20000 := Nat.le_trans h.len (Nat.mul_le_mul_right _ (Nat.le_succ i))
    have hl2 : (os ++ [v]).length ≤ i + 1 := by rw [List.length_append, List.length_singleton]; exact Nat.succ_le_succ h.few
    refine ⟨own_grown h.row hg (fun b e z => h.ap b e z), ⟨by rw [List.length_append]; exact hr, by rw [List.length_append, List.length_append, hfl, List.length_singleton, List.length_singleton], fun k a b => ?_⟩, h.inn, hl1, hl2, fun b e => ⟨Or.inl (h.x7 b e).1, (h.x7 b e).2⟩, fun b e => ⟨Or.inr e, hx b e⟩, fun b e z => ?_⟩
    · by_cases hkl : k < fs.length
      · have hkl' : k < os.length := by omega
        rw [List.getElem_append_left hkl, List.getElem_append_left hkl']
        exact ⟨hk _ _ (h.oth.keep k hkl hkl').1, (h.oth.keep k hkl hkl').2⟩
      · have hke : k = fs.length := by rw [List.length_append] at a; simp at a; omega
        have e1 : (fs ++ [f])[k] = f := by simp [hke]
        have e2 : (os ++ [v])[k] = v := by
          have : k = os.length := by omega
          simp [this]
        rw [e1, e2]
        exact ⟨hk _ _ hv, hf⟩
    · rcases hat with c | c
      · exact h.ap b e (c ▸ z)
      · rw [c] at z; injection z with z
        have := (World.ownsRow.lt h.row b e).2
        omega
end

end Go.Proofs.YthifbaacmohmnaaGreat
