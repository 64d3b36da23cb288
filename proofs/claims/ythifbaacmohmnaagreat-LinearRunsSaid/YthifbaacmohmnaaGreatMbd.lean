/- Joined: LwOrP, NormNull. -/
import Derived.Test.YthifbaacmohmnaaGreatLwAnd
import Derived.Test.YthifbaacmohmnaaGreatMah
import Derived.Test.YthifbaacmohmnaaGreatMak
/- replaced of package linear at the functions that it is handed. -/
namespace Go.Proofs.YthifbaacmohmnaaGreat
open Go.RowKit
set_option linter.unusedSimpArgs false
set_option linter.unusedVariables false

/-- A part of a formula that stays lies where it lies. -/
theorem Keeps.part {X : Nat → Prop} {w : World} {A : Option Addr} {n c : Nat} {f : Fm} (h : Keeps X w (.slice A n c) f) (j : Nat) (hj : j < f.length) : ∃ b off A2 c2, A = some ⟨b, off, none⟩ ∧ b < w.heap.size ∧ w.cell? ⟨b, off + j, none⟩ = some (.slice A2 (paAt f j).length c2) ∧ KeepsL X w (.slice A2 (paAt f j).length c2) (paAt f j) := by
  obtain ⟨b, off, A2, c2, hA, hb, h1, _⟩ := h.here.at j hj
  subst hA
  have hX : ¬ X b := fun hx => by
    have ho : OffF X w (w.setCell ⟨b, off + j, none⟩ (.bool true)) := (OffF.of (Below.refl _ w)).set hx _
    obtain ⟨b', off', A3, c3, e, _, h2, _⟩ := (h _ ho).at j hj
    injection e with e
    injection e with e1 e2 _
    subst e1 e2
    rw [World.cell?_setCell_same w _ _ h1] at h2
    injection h2 with h2
    cases h2
  refine ⟨b, off, A2, c2, rfl, hb, h1, fun w' ho => ?_⟩
  obtain ⟨b', off', A3, c3, e, _, h2, h3⟩ := (h w' ho).at j hj
  injection e with e
  injection e with e1 e2 _
  subst e1 e2
  have hbk := ho.block b hb hX
  unfold World.cell? at h1 h2
  rw [hbk] at h2
  have h4 := h1.symm.trans h2
  injection h4 with h4
  rw [h4]
  exact h3
theorem Grow.transY {p : LP} {w w1 w2 : World} {ns ns1 ns2 : List Nd} {F F1 F2 : Nat → Prop} {many many1 many2 : Bool} {y' : Nat → Prop} (g : Grow p w ns F many w1 ns1 F1 many1) (g2 : Grow { p with y := y' } w1 ns1 F1 many1 w2 ns2 F2 many2) : Grow { p with y := y' } w ns F many w2 ns2 F2 many2 := by
  obtain ⟨m, rfl⟩ := g.more
  obtain ⟨m2, rfl⟩ := g2.more
  refine ⟨⟨m ++ m2, by rw [List.append_assoc]⟩, g2.lw, fun b q => ?_, OffF.off (F' := XB p F1) g.off g2.off g.xlow, fun q => g2.mono (g.mono q)⟩
  rcases g2.low b q with c | c
  · exact g.low b c
  · exact Or.inr (Nat.le_trans g.size c)
theorem OfIs.grow {p : LP} {w w1 : World} {ns ns1 : List Nd} {F F1 : Nat → Prop} {many many1 : Bool} {fn : Nat} {args : Int → Array Value} {l : List Int} {V : List Nat → List Nat → Nat → Nat → Prop} {s : Nat} {val : Int → List Nat → List Nat → Nat → Nat → Bool} (h : OfIs p w ns F many fn args l V s val) (g : Grow p w ns F many w1 ns1 F1 many1) : OfIs p w1 ns1 F1 many1 fn args l V s val :=
  fun y' w2 ns2 F2 many2 x hx g2 => h y' w2 ns2 F2 many2 x hx (g.transY g2)
theorem den_trueP {V : List Nat → List Nat → Nat → Nat → Prop} {s : Nat} {val : List Int → List Nat → List Nat → Nat → Nat → Bool} {ms : List Nd} {l : Fm} {i : Nat} (h : Den V s (fun a b c d => (l.take i).any (fun x => val x a b c d)) ms [[]]) : Den V s (fun a b c d => l.any (fun x => val x a b c d)) ms [[]] := fun a b c d hv => by
  have := h a b c d hv
  rw [fP_true] at this
  rw [fP_true]
  obtain ⟨x, hx, hx2⟩ := List.any_eq_true.1 this.symm
  exact (List.any_eq_true.2 ⟨x, List.mem_of_mem_take hx, hx2⟩).symm
theorem take_anyF {l : Fm} {i : Nat} (h : i < l.length) (f : List Int → Bool) : (l.take (i + 1)).any f = ((l.take i).any f || f l[i]) := by
  rw [List.take_add_one, List.getElem?_eq_getElem h, List.any_append]
  simp
section
variable {p : LP} {w : World} {ns : List Nd} {F : Nat → Prop} {many : Bool}
set_option maxRecDepth 100000 in
set_option maxHeartbeats 4000000 in
theorem lPartOpposite (b3 b5 : Nat) {l : List Int} {v : Value} (h : LW p w ns F many) (hl : KeepsL (XY p F) w v l) (hl2 : l.length ≤ 20000) {V : List Nat → List Nat → Nat → Nat → Prop} {s : Nat} {val : Int → List Nat → List Nat → Nat → Nat → Bool}
    (h3 : At w b3 63 #[.pointer (some ⟨p.gw, 0, none⟩)]) (h5 : At w b5 66 #[.func (.func 114) #[.pointer (some ⟨p.gw, 0, none⟩)] #[]])
    (hof : OfIs p w ns F many 114 (fun x => #[.pointer (some ⟨p.gw, 0, none⟩), .int .i64 x]) l V s val) :
    Calls Tryz.prog 75 #[v, .pointer (some ⟨b3, 0, none⟩), .pointer (some ⟨b5, 0, none⟩)] w (LAns p w ns F many fun ms f => Den V s (fun a b c d => l.all (fun x => val x a b c d)) ms f) := by
  have c3 := h3.cell 0
  have c5 := h5.cell 0
  have HC := Lib.hid (lAndOpposite h hl hl2 hof)
  clear h hl hof h3 h5
  go_enter Tryz.func75, Tryz.ntmps75
  go_wp2_with fail
  refine HC.out.mono ?_
  rintro e w1 ⟨v1, f1, ns1, F1, many1, rfl, hg1, hk1, hi1, hd1⟩
  have HG := Lib.hid hg1
  have HK := Lib.hid hk1
  have HI := Lib.hid hi1
  have HD := Lib.hid hd1
  obtain ⟨A1, c1, hv1⟩ := hk1.at
  subst hv1
  clear hg1 hk1 hi1 hd1
  go_wp2_with fail
  go_ret
  exact LAns.done HG.out HK.out HI.out HD.out

set_option maxRecDepth 100000 in
set_option maxHeartbeats 8000000 in
theorem lOrPOpposite (b3 b5 : Nat) {l : Fm} {v : Value} (h : LW p w ns F many) (hl : Keeps (XY p F) w v l) (hI : FmIn (Ls ns) l) {V : List Nat → List Nat → Nat → Nat → Prop} {s : Nat} {val : Int → List Nat → List Nat → Nat → Nat → Bool}
    (h3 : At w b3 63 #[.pointer (some ⟨p.gw, 0, none⟩)]) (h5 : At w b5 66 #[.func (.func 114) #[.pointer (some ⟨p.gw, 0, none⟩)] #[]]) (n3 : ¬ XB p F b3) (n5 : ¬ XB p F b5)
    (hof : ∀ q ∈ l, OfIs p w ns F many 114 (fun x => #[.pointer (some ⟨p.gw, 0, none⟩), .int .i64 x]) q V s val) :
    Calls Tryz.prog 74 #[.pointer (some ⟨p.gw, 0, none⟩), v, .func (.func 75) #[] #[.pointer (some ⟨b3, 0, none⟩), .pointer (some ⟨b5, 0, none⟩)]] w (LAns p w ns F many fun ms f => Den V s (fun a b c d => l.any (fun q => q.all (fun x => val x a b c d))) ms f) := by
  obtain ⟨A, c, rfl⟩ := hl.at
  have hl63 := hl.here.max
  have HW := Lib.hid h
  have HL := Lib.hid hl
  have HLi : Hid (∀ q ∈ l, q.length ≤ 20000) := Lib.hid (fun q hq => by
    have := hI.part (ls_up ns) hq
    rw [ls_len] at this
    have := h.few
    omega)
  have HPart : Hid (∀ (wr : World) (ns1 : List Nd) (F1 : Nat → Prop) (many1 : Bool) (u : Value) (q : List Int), Grow p w ns F many wr ns1 F1 many1 → q ∈ l → KeepsL (XY p F1) wr u q → Calls Tryz.prog 75 #[u, .pointer (some ⟨b3, 0, none⟩), .pointer (some ⟨b5, 0, none⟩)] wr (LAns p wr ns1 F1 many1 fun ms f => Den V s (fun a b c d => q.all (fun x => val x a b c d)) ms f)) := Lib.hid (fun wr ns1 F1 many1 u q g hq hk =>
    lPartOpposite b3 b5 g.lw hk (HLi.out q hq) ((g.off.block b3 h3.lt n3).trans h3) ((g.off.block b5 h5.lt n5).trans h5) ((hof q hq).grow g))
  clear h hl hof hI h3 h5 n3 n5
  go_enter Tryz.func74, Tryz.ntmps74
  go_wp2_with fail
  refine (lFalse w).mono ?_
  rintro e w1 ⟨A1, c1, rfl, hf1, hb1⟩
  have HG1 := Lib.hid (Grow.of HW.out hb1)
  have HK1 := Lib.hid (FmFrom.keeps HW.out hf1)
  clear hf1 hb1
  go_wp2_with fail
  go_loopw [7, 13] (fun u v wr => ∃ (i : Nat) (f : Fm) (ns1 : List Nd) (F1 : Nat → Prop) (many1 : Bool), i ≤ l.length ∧ v = .int .i64 i ∧ Hid (Grow p w ns F many wr ns1 F1 many1) ∧ Hid (Keeps (XY p F1) wr u f) ∧ Hid (FmIn (Ls ns1) f) ∧ Hid (many1 = false → Den V s (fun a b c d => (l.take i).any (fun q => q.all (fun x => val x a b c d))) ns1 f)) (fun _ v _ => l.length - (intOf v).toNat)
  case atStart => exact ⟨0, [], ns, F, many, Nat.zero_le _, rfl, HG1, HK1, Lib.hid (FmIn.nil _), Lib.hid (fun _ a b c d _ => rfl)⟩
  case round =>
    clear HG1 HK1
    obtain ⟨i, f, ns1, F1, many1, hi, rfl, HG, HK, HI, HD⟩ := hrel
    obtain ⟨A7, c7', hu⟩ := HK.out.at
    subst hu
    by_cases hlt : i < l.length
    · have h1 : (0 : Int) ≤ (i : Int) := by omega
      have h2 : (i : Int) < (l.length : Int) := by omega
      obtain ⟨b, off, A2, c2, rfl, hbl, q0, hkp⟩ := (HL.out.grow HG.out).part i hlt
      obtain ⟨x, hx⟩ : ∃ x, paAt l i = x := ⟨_, rfl⟩
      rw [hx] at q0 hkp
      have hxe : l[i] = x := by rw [← hx, paAt_lt hlt]
      have HX : Hid (l[i] = x) := Lib.hid hxe
      have HXm : Hid (x ∈ l) := Lib.hid (by rw [← hxe]; exact List.getElem_mem hlt)
      have HKp := Lib.hid hkp
      have c7 := HG.out.lw.cells.2.2.2.2.2.2.2
      clear hx hxe hbl hkp
      cases many1
      · have HT := Lib.hid (lIsTrue f _ wr HK.out.here)
        by_cases hf : f = [[]]
        · have hfd : decide (f = [[]]) = true := decide_eq_true hf
          rw [hfd] at HT
          have HF := Lib.hid hf
          clear hf hfd
          go_wp2_with fail
          refine HT.out.mono ?_
          rintro e w2 ⟨rfl, hw2⟩
          obtain rfl : wr = w2 := hw2.symm
          go_wp2_with fail
          go_ret
          exact LAns.done HG.out HK.out HI.out (fun _ => by have := HD.out (by trivial); rw [HF.out] at this ⊢; exact den_trueP (val := fun q a b c d => q.all (fun x => val x a b c d)) this)
        · have hfd : decide (f = [[]]) = false := decide_eq_false hf
          rw [hfd] at HT
          clear hf hfd
          go_wp2_with fail
          refine HT.out.mono ?_
          rintro e w2 ⟨rfl, hw2⟩
          obtain rfl : wr = w2 := hw2.symm
          have HC := Lib.hid (HPart.out wr ns1 F1 false _ x HG.out HXm.out HKp.out)
          go_wp2_with fail
          refine HC.out.mono ?_
          rintro e w3 ⟨v3, g, ns3, F3, many3, rfl, hg3, hk3, hi3, hd3⟩
          have HG3 := Lib.hid (HG.out.trans hg3)
          have HG13 := Lib.hid hg3
          have HK3 := Lib.hid (HK.out.grow hg3)
          have HI3 := Lib.hid hi3
          have HD3 := Lib.hid hd3
          have HKg := Lib.hid hk3
          have HE := Lib.hid (lEither hg3.lw (HK.out.grow hg3) hk3 (hg3.fm HI.out) hi3)
          obtain ⟨A3, c3, hv3⟩ := hk3.at
          subst hv3
          clear hg3 hk3 hi3 hd3 q0 c7
          go_wp2_with fail
          refine HE.out.mono ?_
          rintro e w4 ⟨v4, g4, ns4, F4, many4, rfl, hg4, hk4, hi4, hd4⟩
          obtain ⟨A4, c4, hv4⟩ := hk4.at
          subst hv4
          have HG4 := Lib.hid hg4
          have HK4 := Lib.hid hk4
          have HI4 := Lib.hid hi4
          have HD4 := Lib.hid hd4
          clear hg4 hk4 hi4 hd4
          go_wp2_with fail
          refine ⟨⟨i + 1, g4, ns4, F4, many4, by omega, by go_num, Lib.hid (HG3.out.trans HG4.out), HK4, HI4, Lib.hid (fun hm a b c d hv => ?_)⟩, by simp [intOf]; omega⟩
          have hm3 : many3 = false := by cases many3 with | false => rfl | true => have := HG4.out.mono rfl; rw [hm] at this; cases this
          show _ = (l.take (i + 1)).any (fun q => q.all (fun x => val x a b c d))
          rw [HD4.out hm, take_anyF hlt, HX.out]
          have e1 := (HG4.out.den (HG13.out.fm HI.out) (HG13.out.den HI.out (HD.out (by trivial)))) a b c d hv
          have e2 := (HG4.out.den HI3.out (HD3.out hm3)) a b c d hv
          rw [e1, e2]
      · go_wp2_with fail
        go_ret
        exact LAns.done HG.out HK.out HI.out (fun q => by cases q)
    · obtain rfl : i = l.length := by omega
      go_wp2_with fail
      go_ret
      exact LAns.done HG.out HK.out HI.out (fun hm => by have := HD.out hm; rw [List.take_length] at this; exact this)

set_option maxRecDepth 100000 in
set_option maxHeartbeats 4000000 in
theorem lReplOpposite {l : Fm} {v : Value} (h : LW p w ns F many) (hl : Keeps (XY p F) w v l) (hI : FmIn (Ls ns) l) {V : List Nat → List Nat → Nat → Nat → Prop} {s : Nat} {val : Int → List Nat → List Nat → Nat → Nat → Bool}
    (hof : ∀ q ∈ l, OfIs p w ns F many 114 (fun x => #[.pointer (some ⟨p.gw, 0, none⟩), .int .i64 x]) q V s val) :
    Calls Tryz.prog 43 #[.pointer (some ⟨p.gw, 0, none⟩), v, .func (.func 114) #[.pointer (some ⟨p.gw, 0, none⟩)] #[]] w (LAns p w ns F many fun ms f => Den V s (fun a b c d => l.any (fun q => q.all (fun x => val x a b c d))) ms f) := by
  obtain ⟨A, c, rfl⟩ := hl.at
  obtain ⟨w2, hw2⟩ : ∃ w2, w2 = (w.alloc (.cells #[.pointer (some ⟨p.gw, 0, none⟩)] 63)).alloc (.cells #[.func (.func 114) #[.pointer (some ⟨p.gw, 0, none⟩)] #[]] 66) := ⟨_, rfl⟩
  have hb : Below w.heap.size w w2 := by rw [hw2]; exact ((Below.refl _ _).alloc (Nat.le_refl _) _).alloc (by simp) _
  have HG := Lib.hid (Grow.of h hb)
  have hA3 : At w2 w.heap.size 63 #[.pointer (some ⟨p.gw, 0, none⟩)] := by rw [hw2]; exact (Below.heap_alloc _ _ _ (by simp)).trans (At.new w _ _)
  have hA5 : At w2 (w.heap.size + 1) 66 #[.func (.func 114) #[.pointer (some ⟨p.gw, 0, none⟩)] #[]] := by rw [hw2]; have := At.new (w.alloc (.cells #[.pointer (some ⟨p.gw, 0, none⟩)] 63)) 66 #[.func (.func 114) #[.pointer (some ⟨p.gw, 0, none⟩)] #[]]; rwa [World.size_alloc] at this
  have HC := Lib.hid (lOrPOpposite w.heap.size (w.heap.size + 1) HG.out.lw (hl.grow HG.out) hI hA3 hA5 (fun q => by have := h.low _ q; omega) (fun q => by have := h.low _ q; omega) (fun q hq => (hof q hq).grow HG.out))
  rw [hw2] at HC
  have HW2 := Lib.hid hw2
  clear h hl hI hof hb hA3 hA5 hw2
  go_enter Tryz.func43, Tryz.ntmps43
  go_wp2_with fail
  refine HC.out.mono ?_
  rintro e w1 ⟨v1, f1, ns1, F1, many1, rfl, hg1, hk1, hi1, hd1⟩
  rw [← HW2.out] at hg1
  have HG1 := Lib.hid (HG.out.trans hg1)
  have HK := Lib.hid hk1
  have HI := Lib.hid hi1
  have HD := Lib.hid hd1
  obtain ⟨A1, c1, hv1⟩ := hk1.at
  subst hv1
  clear hg1 hk1 hi1 hd1 HG
  go_wp2_with fail
  go_ret
  exact LAns.done HG1.out HK.out HI.out HD.out

set_option maxRecDepth 100000 in
set_option maxHeartbeats 4000000 in
theorem lPartLeft (b3 b5 : Nat) {l : List Int} {v : Value} (h : LW p w ns F many) (hl : KeepsL (XY p F) w v l) (hl2 : l.length ≤ 20000) {V : List Nat → List Nat → Nat → Nat → Prop} {s : Nat} {val : Int → List Nat → List Nat → Nat → Nat → Bool}
    (h3 : At w b3 63 #[.pointer (some ⟨p.gw, 0, none⟩)]) (h5 : At w b5 66 #[.func (.func 44) #[.pointer (some ⟨p.gw, 0, none⟩)] #[]])
    (hof : OfIs p w ns F many 44 (fun x => #[.pointer (some ⟨p.gw, 0, none⟩), .int .i64 x]) l V s val) :
    Calls Tryz.prog 75 #[v, .pointer (some ⟨b3, 0, none⟩), .pointer (some ⟨b5, 0, none⟩)] w (LAns p w ns F many fun ms f => Den V s (fun a b c d => l.all (fun x => val x a b c d)) ms f) := by
  have c3 := h3.cell 0
  have c5 := h5.cell 0
  have HC := Lib.hid (lAndLeft h hl hl2 hof)
  clear h hl hof h3 h5
  go_enter Tryz.func75, Tryz.ntmps75
  go_wp2_with fail
  refine HC.out.mono ?_
  rintro e w1 ⟨v1, f1, ns1, F1, many1, rfl, hg1, hk1, hi1, hd1⟩
  have HG := Lib.hid hg1
  have HK := Lib.hid hk1
  have HI := Lib.hid hi1
  have HD := Lib.hid hd1
  obtain ⟨A1, c1, hv1⟩ := hk1.at
  subst hv1
  clear hg1 hk1 hi1 hd1
  go_wp2_with fail
  go_ret
  exact LAns.done HG.out HK.out HI.out HD.out

set_option maxRecDepth 100000 in
set_option maxHeartbeats 8000000 in
theorem lOrPLeft (b3 b5 : Nat) {l : Fm} {v : Value} (h : LW p w ns F many) (hl : Keeps (XY p F) w v l) (hI : FmIn (Ls ns) l) {V : List Nat → List Nat → Nat → Nat → Prop} {s : Nat} {val : Int → List Nat → List Nat → Nat → Nat → Bool}
    (h3 : At w b3 63 #[.pointer (some ⟨p.gw, 0, none⟩)]) (h5 : At w b5 66 #[.func (.func 44) #[.pointer (some ⟨p.gw, 0, none⟩)] #[]]) (n3 : ¬ XB p F b3) (n5 : ¬ XB p F b5)
    (hof : ∀ q ∈ l, OfIs p w ns F many 44 (fun x => #[.pointer (some ⟨p.gw, 0, none⟩), .int .i64 x]) q V s val) :
    Calls Tryz.prog 74 #[.pointer (some ⟨p.gw, 0, none⟩), v, .func (.func 75) #[] #[.pointer (some ⟨b3, 0, none⟩), .pointer (some ⟨b5, 0, none⟩)]] w (LAns p w ns F many fun ms f => Den V s (fun a b c d => l.any (fun q => q.all (fun x => val x a b c d))) ms f) := by
  obtain ⟨A, c, rfl⟩ := hl.at
  have hl63 := hl.here.max
  have HW := Lib.hid h
  have HL := Lib.hid hl
  have HLi : Hid (∀ q ∈ l, q.length ≤ 20000) := Lib.hid (fun q hq => by
    have := hI.part (ls_up ns) hq
    rw [ls_len] at this
    have := h.few
    omega)
  have HPart : Hid (∀ (wr : World) (ns1 : List Nd) (F1 : Nat → Prop) (many1 : Bool) (u : Value) (q : List Int), Grow p w ns F many wr ns1 F1 many1 → q ∈ l → KeepsL (XY p F1) wr u q → Calls Tryz.prog 75 #[u, .pointer (some ⟨b3, 0, none⟩), .pointer (some ⟨b5, 0, none⟩)] wr (LAns p wr ns1 F1 many1 fun ms f => Den V s (fun a b c d => q.all (fun x => val x a b c d)) ms f)) := Lib.hid (fun wr ns1 F1 many1 u q g hq hk =>
    lPartLeft b3 b5 g.lw hk (HLi.out q hq) ((g.off.block b3 h3.lt n3).trans h3) ((g.off.block b5 h5.lt n5).trans h5) ((hof q hq).grow g))
  clear h hl hof hI h3 h5 n3 n5
  go_enter Tryz.func74, Tryz.ntmps74
  go_wp2_with fail
  refine (lFalse w).mono ?_
  rintro e w1 ⟨A1, c1, rfl, hf1, hb1⟩
  have HG1 := Lib.hid (Grow.of HW.out hb1)
  have HK1 := Lib.hid (FmFrom.keeps HW.out hf1)
  clear hf1 hb1
  go_wp2_with fail
  go_loopw [7, 13] (fun u v wr => ∃ (i : Nat) (f : Fm) (ns1 : List Nd) (F1 : Nat → Prop) (many1 : Bool), i ≤ l.length ∧ v = .int .i64 i ∧ Hid (Grow p w ns F many wr ns1 F1 many1) ∧ Hid (Keeps (XY p F1) wr u f) ∧ Hid (FmIn (Ls ns1) f) ∧ Hid (many1 = false → Den V s (fun a b c d => (l.take i).any (fun q => q.all (fun x => val x a b c d))) ns1 f)) (fun _ v _ => l.length - (intOf v).toNat)
  case atStart => exact ⟨0, [], ns, F, many, Nat.zero_le _, rfl, HG1, HK1, Lib.hid (FmIn.nil _), Lib.hid (fun _ a b c d _ => rfl)⟩
  case round =>
    clear HG1 HK1
    obtain ⟨i, f, ns1, F1, many1, hi, rfl, HG, HK, HI, HD⟩ := hrel
    obtain ⟨A7, c7', hu⟩ := HK.out.at
    subst hu
    by_cases hlt : i < l.length
    · have h1 : (0 : Int) ≤ (i : Int) := by omega
      have h2 : (i : Int) < (l.length : Int) := by omega
      obtain ⟨b, off, A2, c2, rfl, hbl, q0, hkp⟩ := (HL.out.grow HG.out).part i hlt
      obtain ⟨x, hx⟩ : ∃ x, paAt l i = x := ⟨_, rfl⟩
      rw [hx] at q0 hkp
      have hxe : l[i] = x := by rw [← hx, paAt_lt hlt]
      have HX : Hid (l[i] = x) := Lib.hid hxe
      have HXm : Hid (x ∈ l) := Lib.hid (by rw [← hxe]; exact List.getElem_mem hlt)
      have HKp := Lib.hid hkp
      have c7 := HG.out.lw.cells.2.2.2.2.2.2.2
      clear hx hxe hbl hkp
      cases many1
      · have HT := Lib.hid (lIsTrue f _ wr HK.out.here)
        by_cases hf : f = [[]]
        · have hfd : decide (f = [[]]) = true := decide_eq_true hf
          rw [hfd] at HT
          have HF := Lib.hid hf
          clear hf hfd
          go_wp2_with fail
          refine HT.out.mono ?_
          rintro e w2 ⟨rfl, hw2⟩
          obtain rfl : wr = w2 := hw2.symm
          go_wp2_with fail
          go_ret
          exact LAns.done HG.out HK.out HI.out (fun _ => by have := HD.out (by trivial); rw [HF.out] at this ⊢; exact den_trueP (val := fun q a b c d => q.all (fun x => val x a b c d)) this)
        · have hfd : decide (f = [[]]) = false := decide_eq_false hf
          rw [hfd] at HT
          clear hf hfd
          go_wp2_with fail
          refine HT.out.mono ?_
          rintro e w2 ⟨rfl, hw2⟩
          obtain rfl : wr = w2 := hw2.symm
          have HC := Lib.hid (HPart.out wr ns1 F1 false _ x HG.out HXm.out HKp.out)
          go_wp2_with fail
          refine HC.out.mono ?_
          rintro e w3 ⟨v3, g, ns3, F3, many3, rfl, hg3, hk3, hi3, hd3⟩
          have HG3 := Lib.hid (HG.out.trans hg3)
          have HG13 := Lib.hid hg3
          have HK3 := Lib.hid (HK.out.grow hg3)
          have HI3 := Lib.hid hi3
          have HD3 := Lib.hid hd3
          have HKg := Lib.hid hk3
          have HE := Lib.hid (lEither hg3.lw (HK.out.grow hg3) hk3 (hg3.fm HI.out) hi3)
          obtain ⟨A3, c3, hv3⟩ := hk3.at
          subst hv3
          clear hg3 hk3 hi3 hd3 q0 c7
          go_wp2_with fail
          refine HE.out.mono ?_
          rintro e w4 ⟨v4, g4, ns4, F4, many4, rfl, hg4, hk4, hi4, hd4⟩
          obtain ⟨A4, c4, hv4⟩ := hk4.at
          subst hv4
          have HG4 := Lib.hid hg4
          have HK4 := Lib.hid hk4
          have HI4 := Lib.hid hi4
          have HD4 := Lib.hid hd4
          clear hg4 hk4 hi4 hd4
          go_wp2_with fail
          refine ⟨⟨i + 1, g4, ns4, F4, many4, by omega, by go_num, Lib.hid (HG3.out.trans HG4.out), HK4, HI4, Lib.hid (fun hm a b c d hv => ?_)⟩, by simp [intOf]; omega⟩
          have hm3 : many3 = false := by cases many3 with | false => rfl | true => have := HG4.out.mono rfl; rw [hm] at this; cases this
          show _ = (l.take (i + 1)).any (fun q => q.all (fun x => val x a b c d))
          rw [HD4.out hm, take_anyF hlt, HX.out]
          have e1 := (HG4.out.den (HG13.out.fm HI.out) (HG13.out.den HI.out (HD.out (by trivial)))) a b c d hv
          have e2 := (HG4.out.den HI3.out (HD3.out hm3)) a b c d hv
          rw [e1, e2]
      · go_wp2_with fail
        go_ret
        exact LAns.done HG.out HK.out HI.out (fun q => by cases q)
    · obtain rfl : i = l.length := by omega
      go_wp2_with fail
      go_ret
      exact LAns.done HG.out HK.out HI.out (fun hm => by have := HD.out hm; rw [List.take_length] at this; exact this)

set_option maxRecDepth 100000 in
set_option maxHeartbeats 4000000 in
theorem lReplLeft {l : Fm} {v : Value} (h : LW p w ns F many) (hl : Keeps (XY p F) w v l) (hI : FmIn (Ls ns) l) {V : List Nat → List Nat → Nat → Nat → Prop} {s : Nat} {val : Int → List Nat → List Nat → Nat → Nat → Bool}
    (hof : ∀ q ∈ l, OfIs p w ns F many 44 (fun x => #[.pointer (some ⟨p.gw, 0, none⟩), .int .i64 x]) q V s val) :
    Calls Tryz.prog 43 #[.pointer (some ⟨p.gw, 0, none⟩), v, .func (.func 44) #[.pointer (some ⟨p.gw, 0, none⟩)] #[]] w (LAns p w ns F many fun ms f => Den V s (fun a b c d => l.any (fun q => q.all (fun x => val x a b c d))) ms f) := by
  obtain ⟨A, c, rfl⟩ := hl.at
  obtain ⟨w2, hw2⟩ : ∃ w2, w2 = (w.alloc (.cells #[.pointer (some ⟨p.gw, 0, none⟩)] 63)).alloc (.cells #[.func (.func 44) #[.pointer (some ⟨p.gw, 0, none⟩)] #[]] 66) := ⟨_, rfl⟩
  have hb : Below w.heap.size w w2 := by rw [hw2]; exact ((Below.refl _ _).alloc (Nat.le_refl _) _).alloc (by simp) _
  have HG := Lib.hid (Grow.of h hb)
  have hA3 : At w2 w.heap.size 63 #[.pointer (some ⟨p.gw, 0, none⟩)] := by rw [hw2]; exact (Below.heap_alloc _ _ _ (by simp)).trans (At.new w _ _)
  have hA5 : At w2 (w.heap.size + 1) 66 #[.func (.func 44) #[.pointer (some ⟨p.gw, 0, none⟩)] #[]] := by rw [hw2]; have := At.new (w.alloc (.cells #[.pointer (some ⟨p.gw, 0, none⟩)] 63)) 66 #[.func (.func 44) #[.pointer (some ⟨p.gw, 0, none⟩)] #[]]; rwa [World.size_alloc] at this
  have HC := Lib.hid (lOrPLeft w.heap.size (w.heap.size + 1) HG.out.lw (hl.grow HG.out) hI hA3 hA5 (fun q => by have := h.low _ q; omega) (fun q => by have := h.low _ q; omega) (fun q hq => (hof q hq).grow HG.out))
  rw [hw2] at HC
  have HW2 := Lib.hid hw2
  clear h hl hI hof hb hA3 hA5 hw2
  go_enter Tryz.func43, Tryz.ntmps43
  go_wp2_with fail
  refine HC.out.mono ?_
  rintro e w1 ⟨v1, f1, ns1, F1, many1, rfl, hg1, hk1, hi1, hd1⟩
  rw [← HW2.out] at hg1
  have HG1 := Lib.hid (HG.out.trans hg1)
  have HK := Lib.hid hk1
  have HI := Lib.hid hi1
  have HD := Lib.hid hd1
  obtain ⟨A1, c1, hv1⟩ := hk1.at
  subst hv1
  clear hg1 hk1 hi1 hd1 HG
  go_wp2_with fail
  go_ret
  exact LAns.done HG1.out HK.out HI.out HD.out

set_option maxRecDepth 100000 in
set_option maxHeartbeats 4000000 in
theorem lPartAhead (bx by_ : Nat) (b3 b5 : Nat) {l : List Int} {v : Value} (h : LW p w ns F many) (hl : KeepsL (XY p F) w v l) (hl2 : l.length ≤ 20000) {V : List Nat → List Nat → Nat → Nat → Prop} {s : Nat} {val : Int → List Nat → List Nat → Nat → Nat → Bool}
    (h3 : At w b3 63 #[.pointer (some ⟨p.gw, 0, none⟩)]) (h5 : At w b5 66 #[.func (.func 156) #[] #[.pointer (some ⟨bx, 0, none⟩), .pointer (some ⟨by_, 0, none⟩)]])
    (hof : OfIs p w ns F many 156 (fun x => #[.int .i64 x, .pointer (some ⟨bx, 0, none⟩), .pointer (some ⟨by_, 0, none⟩)]) l V s val) :
    Calls Tryz.prog 75 #[v, .pointer (some ⟨b3, 0, none⟩), .pointer (some ⟨b5, 0, none⟩)] w (LAns p w ns F many fun ms f => Den V s (fun a b c d => l.all (fun x => val x a b c d)) ms f) := by
  have c3 := h3.cell 0
  have c5 := h5.cell 0
  have HC := Lib.hid (lAndAhead bx by_ h hl hl2 hof)
  clear h hl hof h3 h5
  go_enter Tryz.func75, Tryz.ntmps75
  go_wp2_with fail
  refine HC.out.mono ?_
  rintro e w1 ⟨v1, f1, ns1, F1, many1, rfl, hg1, hk1, hi1, hd1⟩
  have HG := Lib.hid hg1
  have HK := Lib.hid hk1
  have HI := Lib.hid hi1
  have HD := Lib.hid hd1
  obtain ⟨A1, c1, hv1⟩ := hk1.at
  subst hv1
  clear hg1 hk1 hi1 hd1
  go_wp2_with fail
  go_ret
  exact LAns.done HG.out HK.out HI.out HD.out

set_option maxRecDepth 100000 in
set_option maxHeartbeats 8000000 in
theorem lOrPAhead (bx by_ : Nat) (b3 b5 : Nat) {l : Fm} {v : Value} (h : LW p w ns F many) (hl : Keeps (XY p F) w v l) (hI : FmIn (Ls ns) l) {V : List Nat → List Nat → Nat → Nat → Prop} {s : Nat} {val : Int → List Nat → List Nat → Nat → Nat → Bool}
    (h3 : At w b3 63 #[.pointer (some ⟨p.gw, 0, none⟩)]) (h5 : At w b5 66 #[.func (.func 156) #[] #[.pointer (some ⟨bx, 0, none⟩), .pointer (some ⟨by_, 0, none⟩)]]) (n3 : ¬ XB p F b3) (n5 : ¬ XB p F b5)
    (hof : ∀ q ∈ l, OfIs p w ns F many 156 (fun x => #[.int .i64 x, .pointer (some ⟨bx, 0, none⟩), .pointer (some ⟨by_, 0, none⟩)]) q V s val) :
    Calls Tryz.prog 74 #[.pointer (some ⟨p.gw, 0, none⟩), v, .func (.func 75) #[] #[.pointer (some ⟨b3, 0, none⟩), .pointer (some ⟨b5, 0, none⟩)]] w (LAns p w ns F many fun ms f => Den V s (fun a b c d => l.any (fun q => q.all (fun x => val x a b c d))) ms f) := by
  obtain ⟨A, c, rfl⟩ := hl.at
  have hl63 := hl.here.max
  have HW := Lib.hid h
  have HL := Lib.hid hl
  have HLi : Hid (∀ q ∈ l, q.length ≤ 20000) := Lib.hid (fun q hq => by
    have := hI.part (ls_up ns) hq
    rw [ls_len] at this
    have := h.few
    omega)
  have HPart : Hid (∀ (wr : World) (ns1 : List Nd) (F1 : Nat → Prop) (many1 : Bool) (u : Value) (q : List Int), Grow p w ns F many wr ns1 F1 many1 → q ∈ l → KeepsL (XY p F1) wr u q → Calls Tryz.prog 75 #[u, .pointer (some ⟨b3, 0, none⟩), .pointer (some ⟨b5, 0, none⟩)] wr (LAns p wr ns1 F1 many1 fun ms f => Den V s (fun a b c d => q.all (fun x => val x a b c d)) ms f)) := Lib.hid (fun wr ns1 F1 many1 u q g hq hk =>
    lPartAhead bx by_ b3 b5 g.lw hk (HLi.out q hq) ((g.off.block b3 h3.lt n3).trans h3) ((g.off.block b5 h5.lt n5).trans h5) ((hof q hq).grow g))
  clear h hl hof hI h3 h5 n3 n5
  go_enter Tryz.func74, Tryz.ntmps74
  go_wp2_with fail
  refine (lFalse w).mono ?_
  rintro e w1 ⟨A1, c1, rfl, hf1, hb1⟩
  have HG1 := Lib.hid (Grow.of HW.out hb1)
  have HK1 := Lib.hid (FmFrom.keeps HW.out hf1)
  clear hf1 hb1
  go_wp2_with fail
  go_loopw [7, 13] (fun u v wr => ∃ (i : Nat) (f : Fm) (ns1 : List Nd) (F1 : Nat → Prop) (many1 : Bool), i ≤ l.length ∧ v = .int .i64 i ∧ Hid (Grow p w ns F many wr ns1 F1 many1) ∧ Hid (Keeps (XY p F1) wr u f) ∧ Hid (FmIn (Ls ns1) f) ∧ Hid (many1 = false → Den V s (fun a b c d => (l.take i).any (fun q => q.all (fun x => val x a b c d))) ns1 f)) (fun _ v _ => l.length - (intOf v).toNat)
  case atStart => exact ⟨0, [], ns, F, many, Nat.zero_le _, rfl, HG1, HK1, Lib.hid (FmIn.nil _), Lib.hid (fun _ a b c d _ => rfl)⟩
  case round =>
    clear HG1 HK1
    obtain ⟨i, f, ns1, F1, many1, hi, rfl, HG, HK, HI, HD⟩ := hrel
    obtain ⟨A7, c7', hu⟩ := HK.out.at
    subst hu
    by_cases hlt : i < l.length
    · have h1 : (0 : Int) ≤ (i : Int) := by omega
      have h2 : (i : Int) < (l.length : Int) := by omega
      obtain ⟨b, off, A2, c2, rfl, hbl, q0, hkp⟩ := (HL.out.grow HG.out).part i hlt
      obtain ⟨x, hx⟩ : ∃ x, paAt l i = x := ⟨_, rfl⟩
      rw [hx] at q0 hkp
      have hxe : l[i] = x := by rw [← hx, paAt_lt hlt]
      have HX : Hid (l[i] = x) := Lib.hid hxe
      have HXm : Hid (x ∈ l) := Lib.hid (by rw [← hxe]; exact List.getElem_mem hlt)
      have HKp := Lib.hid hkp
      have c7 := HG.out.lw.cells.2.2.2.2.2.2.2
      clear hx hxe hbl hkp
      cases many1
      · have HT := Lib.hid (lIsTrue f _ wr HK.out.here)
        by_cases hf : f = [[]]
        · have hfd : decide (f = [[]]) = true := decide_eq_true hf
          rw [hfd] at HT
          have HF := Lib.hid hf
          clear hf hfd
          go_wp2_with fail
          refine HT.out.mono ?_
          rintro e w2 ⟨rfl, hw2⟩
          obtain rfl : wr = w2 := hw2.symm
          go_wp2_with fail
          go_ret
          exact LAns.done HG.out HK.out HI.out (fun _ => by have := HD.out (by trivial); rw [HF.out] at this ⊢; exact den_trueP (val := fun q a b c d => q.all (fun x => val x a b c d)) this)
        · have hfd : decide (f = [[]]) = false := decide_eq_false hf
          rw [hfd] at HT
          clear hf hfd
          go_wp2_with fail
          refine HT.out.mono ?_
          rintro e w2 ⟨rfl, hw2⟩
          obtain rfl : wr = w2 := hw2.symm
          have HC := Lib.hid (HPart.out wr ns1 F1 false _ x HG.out HXm.out HKp.out)
          go_wp2_with fail
          refine HC.out.mono ?_
          rintro e w3 ⟨v3, g, ns3, F3, many3, rfl, hg3, hk3, hi3, hd3⟩
          have HG3 := Lib.hid (HG.out.trans hg3)
          have HG13 := Lib.hid hg3
          have HK3 := Lib.hid (HK.out.grow hg3)
          have HI3 := Lib.hid hi3
          have HD3 := Lib.hid hd3
          have HKg := Lib.hid hk3
          have HE := Lib.hid (lEither hg3.lw (HK.out.grow hg3) hk3 (hg3.fm HI.out) hi3)
          obtain ⟨A3, c3, hv3⟩ := hk3.at
          subst hv3
          clear hg3 hk3 hi3 hd3 q0 c7
          go_wp2_with fail
          refine HE.out.mono ?_
          rintro e w4 ⟨v4, g4, ns4, F4, many4, rfl, hg4, hk4, hi4, hd4⟩
          obtain ⟨A4, c4, hv4⟩ := hk4.at
          subst hv4
          have HG4 := Lib.hid hg4
          have HK4 := Lib.hid hk4
          have HI4 := Lib.hid hi4
          have HD4 := Lib.hid hd4
          clear hg4 hk4 hi4 hd4
          go_wp2_with fail
          refine ⟨⟨i + 1, g4, ns4, F4, many4, by omega, by go_num, Lib.hid (HG3.out.trans HG4.out), HK4, HI4, Lib.hid (fun hm a b c d hv => ?_)⟩, by simp [intOf]; omega⟩
          have hm3 : many3 = false := by cases many3 with | false => rfl | true => have := HG4.out.mono rfl; rw [hm] at this; cases this
          show _ = (l.take (i + 1)).any (fun q => q.all (fun x => val x a b c d))
          rw [HD4.out hm, take_anyF hlt, HX.out]
          have e1 := (HG4.out.den (HG13.out.fm HI.out) (HG13.out.den HI.out (HD.out (by trivial)))) a b c d hv
          have e2 := (HG4.out.den HI3.out (HD3.out hm3)) a b c d hv
          rw [e1, e2]
      · go_wp2_with fail
        go_ret
        exact LAns.done HG.out HK.out HI.out (fun q => by cases q)
    · obtain rfl : i = l.length := by omega
      go_wp2_with fail
      go_ret
      exact LAns.done HG.out HK.out HI.out (fun hm => by have := HD.out hm; rw [List.take_length] at this; exact this)

set_option maxRecDepth 100000 in
set_option maxHeartbeats 4000000 in
theorem lReplAhead (bx by_ : Nat) {l : Fm} {v : Value} (h : LW p w ns F many) (hl : Keeps (XY p F) w v l) (hI : FmIn (Ls ns) l) {V : List Nat → List Nat → Nat → Nat → Prop} {s : Nat} {val : Int → List Nat → List Nat → Nat → Nat → Bool}
    (hof : ∀ q ∈ l, OfIs p w ns F many 156 (fun x => #[.int .i64 x, .pointer (some ⟨bx, 0, none⟩), .pointer (some ⟨by_, 0, none⟩)]) q V s val) :
    Calls Tryz.prog 43 #[.pointer (some ⟨p.gw, 0, none⟩), v, .func (.func 156) #[] #[.pointer (some ⟨bx, 0, none⟩), .pointer (some ⟨by_, 0, none⟩)]] w (LAns p w ns F many fun ms f => Den V s (fun a b c d => l.any (fun q => q.all (fun x => val x a b c d))) ms f) := by
  obtain ⟨A, c, rfl⟩ := hl.at
  obtain ⟨w2, hw2⟩ : ∃ w2, w2 = (w.alloc (.cells #[.pointer (some ⟨p.gw, 0, none⟩)] 63)).alloc (.cells #[.func (.func 156) #[] #[.pointer (some ⟨bx, 0, none⟩), .pointer (some ⟨by_, 0, none⟩)]] 66) := ⟨_, rfl⟩
  have hb : Below w.heap.size w w2 := by rw [hw2]; exact ((Below.refl _ _).alloc (Nat.le_refl _) _).alloc (by simp) _
  have HG := Lib.hid (Grow.of h hb)
  have hA3 : At w2 w.heap.size 63 #[.pointer (some ⟨p.gw, 0, none⟩)] := by rw [hw2]; exact (Below.heap_alloc _ _ _ (by simp)).trans (At.new w _ _)
  have hA5 : At w2 (w.heap.size + 1) 66 #[.func (.func 156) #[] #[.pointer (some ⟨bx, 0, none⟩), .pointer (some ⟨by_, 0, none⟩)]] := by rw [hw2]; have := At.new (w.alloc (.cells #[.pointer (some ⟨p.gw, 0, none⟩)] 63)) 66 #[.func (.func 156) #[] #[.pointer (some ⟨bx, 0, none⟩), .pointer (some ⟨by_, 0, none⟩)]]; rwa [World.size_alloc] at this
  have HC := Lib.hid (lOrPAhead bx by_ w.heap.size (w.heap.size + 1) HG.out.lw (hl.grow HG.out) hI hA3 hA5 (fun q => by have := h.low _ q; omega) (fun q => by have := h.low _ q; omega) (fun q hq => (hof q hq).grow HG.out))
  rw [hw2] at HC
  have HW2 := Lib.hid hw2
  clear h hl hI hof hb hA3 hA5 hw2
  go_enter Tryz.func43, Tryz.ntmps43
  go_wp2_with fail
  refine HC.out.mono ?_
  rintro e w1 ⟨v1, f1, ns1, F1, many1, rfl, hg1, hk1, hi1, hd1⟩
  rw [← HW2.out] at hg1
  have HG1 := Lib.hid (HG.out.trans hg1)
  have HK := Lib.hid hk1
  have HI := Lib.hid hi1
  have HD := Lib.hid hd1
  obtain ⟨A1, c1, hv1⟩ := hk1.at
  subst hv1
  clear hg1 hk1 hi1 hd1 HG
  go_wp2_with fail
  go_ret
  exact LAns.done HG1.out HK.out HI.out HD.out

end

end Go.Proofs.YthifbaacmohmnaaGreat

/- Whether a node matches nothing, kind by kind; some number of times, as Build puts it. Mathematics; no program is named. -/
namespace Go.Proofs.YthifbaacmohmnaaGreat
open Go.RowKit
set_option linter.unusedSimpArgs false
set_option linter.unusedVariables false

theorem null_in {ns : List Nd} {bits : Nat} {x : Int} (hx : isIn ns x) : nullS ns bits x = nodeT [] [bits] ns x 0 0 := by
  unfold nullS
  rw [decide_eq_true (show 0 ≤ x ∧ x < (ns.length : Int) from hx), Bool.true_and]
theorem null_out {ns : List Nd} {bits : Nat} {x : Int} (hx : ¬ isIn ns x) : nullS ns bits x = false := by
  unfold nullS
  rw [decide_eq_false (show ¬ (0 ≤ x ∧ x < (ns.length : Int)) from hx), Bool.false_and]
section
variable {ns : List Nd} (hf : FineN ns) (bits : Nat) {x : Int} (hx : isIn ns x)
include hf hx
theorem null_0 (k : kd ns x = 0) : nullS ns bits x = false := by rw [null_in hx, T_no hf hx k]; rfl
theorem null_1 (k : kd ns x = 1) : nullS ns bits x = true := by rw [null_in hx, T_em hf hx k]; rfl
theorem null_2 (k : kd ns x = 2) : nullS ns bits x = false := by rw [null_in hx, T_bytes hf hx k]; rfl
theorem null_3 (k : kd ns x = 3) : nullS ns bits x = (nullS ns bits (ka ns x) && nullS ns bits (kb ns x)) := by
  obtain ⟨⟨a0, _⟩, b0, _⟩ := in_two hf hx (Or.inl k)
  rw [null_in hx, null_in a0, null_in b0, T_cat hf hx k]
  refine bool_iff ?_
  rw [then_iff, Bool.and_eq_true]
  constructor
  · rintro ⟨m, m0, _, _, h1, h2⟩
    have m0 : m < 1 := m0
    obtain rfl : m = 0 := by omega
    exact ⟨h1, h2⟩
  · rintro ⟨h1, h2⟩
    exact ⟨0, Nat.zero_lt_succ _, Nat.le_refl _, Nat.le_refl _, h1, h2⟩
theorem null_4 (k : kd ns x = 4) : nullS ns bits x = (nullS ns bits (ka ns x) || nullS ns bits (kb ns x)) := by
  obtain ⟨⟨a0, _⟩, b0, _⟩ := in_two hf hx (by omega)
  rw [null_in hx, null_in a0, null_in b0, T_or hf hx k]
theorem null_5 (k : kd ns x = 5) : nullS ns bits x = (nullS ns bits (ka ns x) && nullS ns bits (kb ns x)) := by
  obtain ⟨⟨a0, _⟩, b0, _⟩ := in_two hf hx (by omega)
  rw [null_in hx, null_in a0, null_in b0, T_and hf hx k]
theorem null_6 (k : kd ns x = 6) : nullS ns bits x = !nullS ns bits (ka ns x) := by
  rw [null_in hx, null_in (in_one hf hx (Or.inl k)).1, T_not hf hx k]
  unfold otherF
  rw [decide_eq_true (Nat.le_refl 0), Bool.true_and]
theorem null_7 (k : kd ns x = 7) : nullS ns bits x = true := by
  rw [null_in hx, T_star hf hx k]
  exact any_self _ _ _ _
theorem null_8 (k : kd ns x = 8) : nullS ns bits x = (decide (bits >>> (ka ns x).toNat % 2 = 1) != (ndAt ns x.toNat).neg) := by
  rw [null_in hx, T_look hf hx k]
  unfold bitF
  rw [decide_eq_true rfl, Bool.true_and]
  rfl
end
/- Times: Lo times Cat of x; then Star of x, or as often Or of Empty and Cat of x and what comes then. -/
end Go.Proofs.YthifbaacmohmnaaGreat
