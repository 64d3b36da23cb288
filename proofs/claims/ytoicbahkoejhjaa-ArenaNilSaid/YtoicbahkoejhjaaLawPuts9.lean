/- bolterlaw09.ArenaPuts, by what an arena does. -/
import Derived.Test.YtoicbahkoejhjaaArenaAwake
import Derived.Test.YtoicbahkoejhjaaNodeRow
import Derived.Test.YtoicbahkoejhjaaNodeEq
import Derived.Deep.QuietTactic
import Derived.BigQuiet
namespace Go.Proofs.Ytoicbahkoejhjaa
open Go.RowKit
set_option linter.unusedSimpArgs false
set_option linter.unusedVariables false

theorem fewN (A : Option Addr) (n c : Nat) (w : World) (v : Bool) (hv : decide (n ≤ 40) = v) : Calls Try.prog 8 #[.slice A n c] w fun e w' => e = .returned (.bool v) ∧ w = w' := by
  subst hv
  go_enter Try.func8, Try.ntmps8
  go_wp2_with fail
  go_ret
  refine ⟨?_, rfl⟩
  show Ending.returned (.bool (decide ((n : Int) ≤ 40))) = _
  by_cases h : n ≤ 40
  · rw [decide_eq_true h, decide_eq_true (by omega)]
  · rw [decide_eq_false h, decide_eq_false (by omega)]
theorem nd_cells8 {w : World} {b o : Nat} {x : Nd} (h : w.rangeAt b o x.cs) : w.cell? ⟨b, o, none⟩ = some (.int .i64 x.kind) ∧ w.cell? ⟨b, o + 1, none⟩ = some (.int .u64 x.set.w0) ∧ w.cell? ⟨b, o + 2, none⟩ = some (.int .u64 x.set.w1) ∧ w.cell? ⟨b, o + 3, none⟩ = some (.int .u64 x.set.w2) ∧ w.cell? ⟨b, o + 4, none⟩ = some (.int .u64 x.set.w3) ∧ w.cell? ⟨b, o + 5, none⟩ = some (.int .i64 x.a) ∧ w.cell? ⟨b, o + 6, none⟩ = some (.int .i64 x.b) ∧ w.cell? ⟨b, o + 7, none⟩ = some (.bool x.neg) :=
  ⟨h 0 _ rfl, h 1 _ rfl, h 2 _ rfl, h 3 _ rfl, h 4 _ rfl, h 5 _ rfl, h 6 _ rfl, h 7 _ rfl⟩
theorem ndEqL (w : World) (x y : Nd) (v : Bool) (h : x.eqb y = v) : (Op.equalIn 10000 34 (.agg #[.int .i64 x.kind, .int .u64 x.set.w0, .int .u64 x.set.w1, .int .u64 x.set.w2, .int .u64 x.set.w3, .int .i64 x.a, .int .i64 x.b, .bool x.neg]) (.agg #[.int .i64 y.kind, .int .u64 y.set.w0, .int .u64 y.set.w1, .int .u64 y.set.w2, .int .u64 y.set.w3, .int .i64 y.a, .int .i64 y.b, .bool y.neg])).run Try.prog w = .ok v w := ndEq w x y v h
theorem findN_le (ns : List Nd) (x : Nd) : findN ns x ≤ ns.length := List.findIdx_le_length
theorem findN_at {ns : List Nd} {x : Nd} (h : findN ns x < ns.length) : ndAt ns (findN ns x) = x := by
  rw [ndAt_lt h]
  have := @List.findIdx_getElem Nd (fun y => y.eqb x) ns h
  exact (Nd.eqb_iff _ _).1 this
theorem findN_not {ns : List Nd} {x : Nd} {t : Nat} (h : t < findN ns x) : (ndAt ns t).eqb x = false := by
  have hl := findN_le ns x
  rw [ndAt_lt (by omega)]
  have := List.not_of_lt_findIdx h
  simpa using this
theorem findN_is {ns : List Nd} {x : Nd} {t : Nat} (ht : t ≤ findN ns x) (hl : t < ns.length) (h : (ndAt ns t).eqb x = true) : findN ns x = t := by
  by_cases e : t = findN ns x
  · exact e.symm
  · have := findN_not (ns := ns) (x := x) (t := t) (by omega)
    rw [this] at h
    cases h
theorem put_at {ns : List Nd} {x : Nd} (hr : x.right ns.length = true) : findN ns x < (putS ns x).length ∧ ndAt (putS ns x) (findN ns x) = x := by
  unfold putS
  rw [if_pos hr]
  by_cases h : findN ns x < ns.length
  · rw [if_pos h]; exact ⟨h, findN_at h⟩
  · rw [if_neg h]
    have e : findN ns x = ns.length := by have := findN_le ns x; omega
    refine ⟨by rw [e, List.length_append]; simp, ?_⟩
    unfold ndAt
    rw [e, List.getElem?_append_right (Nat.le_refl _), Nat.sub_self]; rfl

-- the walk
theorem NdRow.off {w w' : World} {base : Nat} {v : Value} {l : List Nd} {F : Nat → Prop} (h : NdRow w base v l) (ho : OffF F w w') (hn : ∀ b, F b → v.ownBlock ≠ some b) : NdRow w' base v l := by
  obtain ⟨h1, h2⟩ := id h
  refine ⟨h1, ?_⟩
  rcases h2 with ⟨e, q⟩ | ⟨g, cap, cur, e, hb, hc, r⟩
  · exact Or.inl ⟨e, q⟩
  · refine Or.inr ⟨g, cap, cur, e, hb, ?_, r⟩
    have hlt := (World.ownsRow.lt h g (by rw [e]; rfl)).2
    exact (ho.block g hlt (fun q => hn g q (by rw [e]; rfl))).trans hc
section
variable {AA : World → Value → List Nd → (Nat → Prop) → Prop}

set_option maxRecDepth 100000 in
set_option maxHeartbeats 32000000 in
theorem lawPuts9 (S : ArenaSpec AA) (l : List Nd) (v0 : Value) (w : World) (hv : NdsAt w v0 l) (hf : ∀ j, j < l.length → NdFit (ndAt l j)) :
    Calls Try.prog 3 #[v0] w fun e w' => e = .returned (.bool true) ∧ Below w.heap.size w w' := by
  have HV := Lib.hid hv
  have h63 : l.length ≤ 9223372036854775807 := hv.choose_spec.choose_spec.2.1
  obtain ⟨A0, c0, rfl, _, _⟩ := HV.out
  have HF := Lib.hid hf
  clear hv hf
  obtain ⟨i0, hi0, hz0, hz1, hz2⟩ := info_parts info_node
  obtain ⟨vf, hvf⟩ : ∃ v, decide (l.length ≤ 40) = v := ⟨_, rfl⟩
  have HVf := Lib.hid hvf
  clear hvf
  go_enter Try.func3, Try.ntmps3
  go_wp2_with fail
  refine (lawAwake9 S w).mono ?_
  rintro e w1 ⟨rfl, hB1⟩
  have HB1 := Lib.hid hB1
  clear hB1
  go_wp2_with fail
  refine (fewN _ _ _ w1 vf HVf.out).mono ?_
  rintro e w2 ⟨rfl, rfl⟩
  cases vf
  · go_wp2_with fail
    refine (lawAwake9 S w1).mono ?_
    rintro e w2 ⟨rfl, hB2⟩
    have HB2 := Lib.hid (HB1.out.trans (hB2.mono HB1.out.size))
    clear hB2
    go_wp2_with fail
    go_ret
    exact ⟨rfl, HB2.out⟩
  · have h40 : l.length ≤ 40 := of_decide_eq_true HVf.out
    go_wp2_with fail
    refine (S.new w1).mono ?_
    rintro e w2 ⟨a, F1, rfl, hA1, hF1, hB2⟩
    have HA1 := Lib.hid hA1
    have HG1 : Hid (∀ b, F1 b → w.heap.size ≤ b ∧ (Value.slice none 0 0).ownBlock ≠ some b) := Lib.hid (fun b q => ⟨Nat.le_trans HB1.out.size (hF1 b q), by intro h; cases h⟩)
    have HB2 := Lib.hid (HB1.out.trans (hB2.mono HB1.out.size))
    clear hA1 hF1 hB2
    go_wp2_with fail
    go_loopw [4, 26] (fun v x wr => ∃ (j : Nat) (F : Nat → Prop), j ≤ l.length ∧ x = .int .i64 j ∧ Hid (AA wr a (madeS (l.take j)) F) ∧ Hid (NdRow wr w.heap.size v (madeS (l.take j))) ∧ Hid (∀ b, F b → w.heap.size ≤ b ∧ v.ownBlock ≠ some b) ∧ Hid (Below w.heap.size w wr)) (fun _ x _ => l.length - (intOf x).toNat)
    case atStart => exact ⟨0, F1, Nat.zero_le _, rfl, HA1, Lib.hid (NdRow.nil _ _), HG1, HB2⟩
    case round =>
      clear HA1 HG1 HB2
      obtain ⟨j, F, hj, rfl, HA, HW, HG, HB⟩ := hrel
      have hlen : (madeS (l.take j)).length ≤ j := by have := made_le (l.take j); rw [List.length_take] at this; omega
      by_cases hjl : j < l.length
      · have hjz : (0 : Int) ≤ (j : Int) := by omega
        have hjn : (j : Int) < (l.length : Int) := by omega
        have HM := Lib.hid (made_succ l j hjl)
        obtain ⟨A', cap, e1, _, h3⟩ := HV.out
        injection e1 with e1 _ e3
        subst e1
        subst e3
        obtain ⟨b, off, rfl, hbb, hr⟩ := h3 (by omega)
        have HBb := Lib.hid hbb
        have HR := Lib.hid (hr j hjl)
        have HFx := Lib.hid (HF.out j hjl)
        obtain ⟨x, hx⟩ : ∃ x, ndAt l j = x := ⟨_, rfl⟩
        rw [hx] at HR HFx HM
        obtain ⟨ns, hnse⟩ : ∃ ns, madeS (l.take j) = ns := ⟨_, rfl⟩
        rw [hnse] at HA HW HM hlen
        have HK : Hid (∀ w', Below w.heap.size w w' → w'.rangeAt b (off + j * 8) x.cs) := Lib.hid (fun w' hb i u hu => ((bcell hb).1 b _ hbb).trans (HR.out i u hu))
        clear hr h3 hx hnse
        obtain ⟨A2, c2, hu4⟩ := HW.out.len
        subst hu4
        have hfn := findN_le ns x
        obtain ⟨l0, l1, l2, l3, l4, l5, l6, l7⟩ := nd_cells8 (HK.out wr HB.out)
        go_wp2_with fail
        refine (S.put x HA.out HFx.out (by omega)).mono ?_
        rintro e w4 ⟨F2, rfl, hA2, hF2, ho2⟩
        have HA4 := Lib.hid hA2
        have HW4 := Lib.hid (HW.out.off ho2 (fun b q => (HG.out b q).2))
        have HG4 : Hid (∀ b, F2 b → w.heap.size ≤ b ∧ (Value.slice A2 ns.length c2).ownBlock ≠ some b) := Lib.hid (fun b q => by
          rcases hF2 b q with h | h
          · exact HG.out b h
          · exact ⟨Nat.le_trans HB.out.size h, fun e => by have := (World.ownsRow.lt HW.out b e).2; omega⟩)
        have HB4 := Lib.hid (HB.out.trans (ho2.below (fun b q => (HG.out b q).1) HB.out.size))
        clear hA2 hF2 ho2 l0 l1 l2 l3 l4 l5 l6 l7
        obtain ⟨l0, l1, l2, l3, l4, l5, l6, l7⟩ := nd_cells8 (HK.out w4 HB4.out)
        go_wp2_with fail
        refine (refRight x ns.length w4).mono ?_
        rintro e w5 ⟨rfl, hb5⟩
        have HA5 := Lib.hid (S.next HA4.out hb5)
        have HW5 := Lib.hid (HW4.out.next hb5)
        have HB5 := Lib.hid (HB4.out.trans (hb5.mono HB4.out.size))
        clear hb5 l0 l1 l2 l3 l4 l5 l6 l7
        cases hrt : x.right ns.length
        · have HPS : Hid (putS ns x = ns) := Lib.hid (by unfold putS; rw [hrt]; rfl)
          have HPI : Hid (putId ns x = 0) := Lib.hid (by unfold putId; rw [hrt]; rfl)
          have HPE : Hid (putE ns x = 1) := Lib.hid (by unfold putE; rw [hrt]; rfl)
          rw [HPS.out] at HA5 HM
          rw [HPI.out, HPE.out]
          clear hrt
          go_wp2_with fail
          refine (S.len HA5.out (by omega)).mono ?_
          rintro e w6 ⟨rfl, q6, rfl⟩
          go_wp2_with fail
          go_roundw
          case rel => exact ⟨j + 1, F2, by omega, by go_num, by rw [HM.out]; exact Lib.hid (S.keep HA5.out (fun _ _ => rfl)), by rw [HM.out]; exact Lib.hid HW5.out, HG4, Lib.hid (below_drewN' HB5.out q6)⟩
          case measure => simp [intOf]; omega
        · have HRt := Lib.hid hrt
          have HPI : Hid (putId ns x = (findN ns x : Int)) := Lib.hid (by unfold putId; rw [hrt]; rfl)
          have HPE : Hid (putE ns x = 0) := Lib.hid (by unfold putE; rw [hrt]; rfl)
          obtain ⟨hpl, hpat⟩ := put_at hrt
          have HPL := Lib.hid hpl
          have HPA := Lib.hid hpat
          rw [HPI.out, HPE.out]
          clear hrt hpl hpat
          obtain ⟨wo, hwo⟩ : ∃ wo : World, wo = wr := ⟨_, rfl⟩
          go_wp2_with fail
          go_loopw [8] (fun y wr => ∃ t q : Nat, t ≤ findN ns x ∧ y = .int .i64 t ∧ wr = w5.drewN q) (fun y _ => ns.length - (intOf y).toNat)
          case atStart => exact ⟨0, 0, Nat.zero_le _, rfl, rfl⟩
          case round =>
            obtain ⟨t, q, ht, rfl, rfl⟩ := hrel
            have hBq := below_drewN' HB5.out q
            obtain ⟨l0, l1, l2, l3, l4, l5, l6, l7⟩ := nd_cells8 (HK.out w5 HB5.out)
            by_cases htn : t < ns.length
            · have htz : (0 : Int) ≤ (t : Int) := by omega
              have htn1 : (t : Int) < (ns.length : Int) := by omega
              have htn2 : decide (t < ns.length) = true := decide_eq_true htn
              have htn3 : ((t : Int) == (ns.length : Int)) = false := beq_eq_false_iff_ne.2 (by omega)
              have htn4 : (t == ns.length) = false := beq_eq_false_iff_ne.2 (by omega)
              obtain ⟨_, _, e1, _, h3⟩ := HW5.out.nds (by omega)
              injection e1 with e1 _ e3
              obtain ⟨b2, off2, e2, _, hr2⟩ := h3 (by omega)
              rw [← e1] at e2
              subst e2
              have hr3 : w5.rangeAt b2 (off2 + t * 8) (ndAt ns t).cs := hr2 t htn
              obtain ⟨z, hz⟩ : ∃ z, ndAt ns t = z := ⟨_, rfl⟩
              rw [hz] at hr3
              obtain ⟨d0, d1, d2, d3, d4, d5, d6, d7⟩ := nd_cells8 hr3
              have HZ := Lib.hid hz
              clear hr2 hr3 h3 hz e1 e3
              obtain ⟨ve, hve⟩ : ∃ v, z.eqb x = v := ⟨_, rfl⟩
              have HVe := Lib.hid hve
              have hq := fun W => ndEqL W z x ve hve
              clear hve
              cases ve
              · have htf : t < findN ns x := by
                  rcases Nat.lt_or_ge t (findN ns x) with h | h
                  · exact h
                  · have e : findN ns x = t := by omega
                    have := findN_at (ns := ns) (x := x) (by omega)
                    rw [e, HZ.out] at this
                    have h2 := HVe.out
                    rw [this, Nd.eqb_self] at h2
                    cases h2
                go_wp2_with fail
                go_quiet (fail)
                go_wp2_with fail
                go_roundw
                case rel => exact ⟨t + 1, q + nq, by omega, by go_num, rfl⟩
                case measure => simp [intOf]; omega
              · have hft : findN ns x = t := findN_is ht htn (by rw [HZ.out]; exact HVe.out)
                have HFt := Lib.hid hft
                have hpS : putS ns x = ns := by unfold putS; rw [if_pos HRt.out, if_pos (by omega)]
                have hpl : (putS ns x).length = ns.length := by rw [hpS]
                go_wp2_with fail
                go_quiet (fail)
                clear l0 l1 l2 l3 l4 l5 l6 l7 d0 d1 d2 d3 d4 d5 d6 d7 hq
                try rw [hft]
                rw [hft] at HPL HPA
                obtain ⟨fx, hfx⟩ : ∃ fx, fx = t := ⟨_, rfl⟩
                subst hfx
                obtain ⟨w6, hw6⟩ : ∃ w6, w6 = (w5.drewN q).drewN nq := ⟨_, rfl⟩
                have HA6 : Hid (AA w6 a (putS ns x) F2) := Lib.hid (S.keep HA5.out (fun _ _ => by rw [hw6]; rfl))
                have HW6 : Hid (NdRow w6 w.heap.size (.slice (some ⟨b2, off2, none⟩) ns.length c2) (putS ns x)) := Lib.hid (by rw [hpS, hw6]; exact HW5.out)
                have HB6 : Hid (Below w.heap.size w w6) := Lib.hid (by rw [hw6]; exact below_drewN' hBq nq)
                have HG6 := HG4
                rw [← hw6]
                clear hw6 hpS
                go_wp2_with fail
                refine (S.node (fx : Int) HA6.out (by unfold I64; omega) (by omega)).mono ?_
                rintro e w7 ⟨y, rfl, hy, hb7⟩
                have hin : (0 : Int) ≤ (fx : Int) ∧ (fx : Int) < ((putS ns x).length : Int) := ⟨by omega, by have := HPL.out; omega⟩
                have hy' := hy hin
                rw [Int.toNat_natCast, HPA.out] at hy'
                subst hy'
                rw [decide_eq_true hin]
                have HA7 := Lib.hid (S.next HA6.out hb7)
                have HW7 := Lib.hid (HW6.out.next hb7)
                have HB7 := Lib.hid (HB6.out.trans (hb7.mono HB6.out.size))
                have HXb := Lib.hid (boxN_at w7 y)
                have hbx := boxN_next w7 y
                have HA8 := Lib.hid (S.next HA7.out hbx)
                have HW8 := Lib.hid (HW7.out.next hbx)
                have HB8 := Lib.hid (HB7.out.trans (hbx.mono HB7.out.size))
                have hone := Nd.one y
                clear hy hb7 hbx hin
                obtain ⟨l0, l1, l2, l3, l4, l5, l6, l7⟩ := nd_cells8 (HK.out _ HB8.out)
                obtain ⟨n0, n1, n2, n3, n4, n5, n6, n7⟩ := Nd.cells HXb.out
                have hq := fun W => ndEqL W y y true (Nd.eqb_self y)
                go_wp2_with (first
                  | (with_reducible show wpList _ _ _ ({ dst := none, op := .store _ _ _, type := _, pos := _, after := _, guard := _ } :: _) _ _
                     refine wpList_store_row rfl 34 _ _ rfl w7.heap.size y.cs.toArray rfl rfl 34 Nd.zero.cs.toArray (At.new _ _ _) (by kernel_rfl) rfl hone ?_
                     first | change wpList _ _ _ _ _ (boxN w7 y) | change Exit.then _ _ _ _ (boxN w7 y))
                  | fail)
                have HLn : Hid ((putS ns y).length = ns.length) := Lib.hid hpl
                have HSL : Hid (∀ q, Calls Try.prog 12 #[a] ((boxN w7 y).drewN q) fun e w' => e = .returned (.int .i64 (ns.length : Nat)) ∧ ∃ q', w' = ((boxN w7 y).drewN q).drewN q') := Lib.hid (fun q => by have h := S.len (w := (boxN w7 y).drewN q) (S.keep HA8.out (fun _ _ => rfl)) (by omega); rw [hpl] at h; exact h)
                clear hpl
                go_quiet (exact Calls.quiet_of (HSL.out _))
                go_wp2_with fail
                go_roundw
                case rel => exact ⟨j + 1, F2, by omega, by go_num, by rw [HM.out]; exact Lib.hid (S.keep HA8.out (fun _ _ => rfl)), by rw [HM.out]; exact Lib.hid HW8.out, HG6, Lib.hid (below_drewN' HB8.out nq)⟩
                case measure => simp [intOf]; omega
            · have htn1 : ¬ (t : Int) < (ns.length : Int) := by omega
              obtain rfl : t = ns.length := by omega
              have htn2 : decide (ns.length < ns.length) = false := decide_eq_false htn
              have hft : findN ns x = ns.length := by omega
              have hpS : putS ns x = ns ++ [x] := by unfold putS; rw [if_pos HRt.out, if_neg (by omega)]
              have hpl : (putS ns x).length = ns.length + 1 := by rw [hpS, List.length_append]; rfl
              have HPS := Lib.hid hpS
              have HFt := Lib.hid hft
              have hcl : x.cs.length = 8 := rfl
              have hs5 := HB5.out.size
              have HWq : Hid (NdRow ((w5.drewN q).drewN 1) w.heap.size (.slice A2 ns.length c2) ns) := Lib.hid HW5.out
              clear hpS
              go_wp2_with fail
              go_quiet (fail)
              have HWn : Hid (NdRow ((w5.drewN q).drewN nq) w.heap.size (.slice A2 ns.length c2) ns) := Lib.hid HW5.out
              go_wp2_with (first
                | (at_builtin
                   refine wpList_append_lies _ rfl _ _ _ rfl w.heap.size 34 i0 _ 8 64 Try.underlying22 hi0 hz0 hz1 hz2 rfl (by omega) (Value.slice A2 ns.length c2) _ _ rfl (HWn.out.alloc _) ⟨_, 0, none⟩ 1 1 x.cs rfl rfl ?c1 ?c2 (by omega) ?c3 ?c4 ?c5 _ rfl ?_
                   case c1 => exact (World.news_of_block (At.new _ _ _))
                   case c2 => simp [Nd.cs, Value.oneCell']
                   case c3 => unfold maxLen; omega
                   case c4 => omega
                   case c5 => simp; omega
                   intro g cap w6 hown6 hg6 hat6 hlt6)
                | fail)
              have HA6 : Hid (AA w6 a (putS ns x) F2) := Lib.hid (S.keep HA5.out (fun b' q' => by
                have hlt := S.low HA5.out b' q'
                have h1 := hg6.block b' (by simp; omega) (fun e => (HG4.out b' q').2 e.symm)
                rw [h1]
                exact (MapKept.heap_alloc _ _).2 b' (by simpa using hlt)))
              have HW6 : Hid (NdRow w6 w.heap.size (.slice (some ⟨g, 0, none⟩) (ns.length + 1) cap) (putS ns x)) := Lib.hid (by rw [HPS.out]; exact NdRow.push hown6)
              have HB6 : Hid (Below w.heap.size w w6) := Lib.hid (((below_drewN' HB5.out (q + nq)).alloc (by simpa using hs5) _).grown hg6 (by simp; omega) (fun g hg => HW5.out.low g hg))
              have HG6 : Hid (∀ b', F2 b' → w.heap.size ≤ b' ∧ (Value.slice (some ⟨g, 0, none⟩) (ns.length + 1) cap).ownBlock ≠ some b') := Lib.hid (fun b' q' => ⟨(HG4.out b' q').1, fun e => by
                have hlt := S.low HA5.out b' q'
                have e2 : g = b' := by injection e
                rcases hat6 with h | h
                · exact (HG4.out b' q').2 (h.trans (by rw [e2]))
                · simp at h; omega⟩)
              clear hown6 hg6 hat6 hlt6 HWn HWq l0 l1 l2 l3 l4 l5 l6 l7
              rw [hft] at HPL HPA
              refine (S.node (ns.length : Int) HA6.out (by unfold I64; omega) (by omega)).mono ?_
              rintro e w7 ⟨y, rfl, hy, hb7⟩
              have hin : (0 : Int) ≤ (ns.length : Int) ∧ (ns.length : Int) < ((putS ns x).length : Int) := ⟨by omega, by have := HPL.out; omega⟩
              have hy' := hy hin
              rw [Int.toNat_natCast, HPA.out] at hy'
              subst hy'
              rw [decide_eq_true hin]
              have HA7 := Lib.hid (S.next HA6.out hb7)
              have HW7 := Lib.hid (HW6.out.next hb7)
              have HB7 := Lib.hid (HB6.out.trans (hb7.mono HB6.out.size))
              have HXb := Lib.hid (boxN_at w7 y)
              have hbx := boxN_next w7 y
              have HA8 := Lib.hid (S.next HA7.out hbx)
              have HW8 := Lib.hid (HW7.out.next hbx)
              have HB8 := Lib.hid (HB7.out.trans (hbx.mono HB7.out.size))
              have hone := Nd.one y
              clear hy hb7 hbx hin
              obtain ⟨l0, l1, l2, l3, l4, l5, l6, l7⟩ := nd_cells8 (HK.out _ HB8.out)
              obtain ⟨n0, n1, n2, n3, n4, n5, n6, n7⟩ := Nd.cells HXb.out
              have hq := fun W => ndEqL W y y true (Nd.eqb_self y)
              go_wp2_with (first
                | (with_reducible show wpList _ _ _ ({ dst := none, op := .store _ _ _, type := _, pos := _, after := _, guard := _ } :: _) _ _
                   refine wpList_store_row rfl 34 _ _ rfl w7.heap.size y.cs.toArray rfl rfl 34 Nd.zero.cs.toArray (At.new _ _ _) (by kernel_rfl) rfl hone ?_
                   first | change wpList _ _ _ _ _ (boxN w7 y) | change Exit.then _ _ _ _ (boxN w7 y))
                | fail)
              have HLn : Hid ((putS ns y).length = ns.length + 1) := Lib.hid hpl
              have HSL : Hid (∀ q, Calls Try.prog 12 #[a] ((boxN w7 y).drewN q) fun e w' => e = .returned (.int .i64 (ns.length + 1 : Nat)) ∧ ∃ q', w' = ((boxN w7 y).drewN q).drewN q') := Lib.hid (fun q => by have h := S.len (w := (boxN w7 y).drewN q) (S.keep HA8.out (fun _ _ => rfl)) (by omega); rw [hpl] at h; exact h)
              clear hpl
              go_quiet (exact Calls.quiet_of (HSL.out _))
              go_wp2_with fail
              go_roundw
              case rel => exact ⟨j + 1, F2, by omega, by go_num, by rw [HM.out]; exact Lib.hid (S.keep HA8.out (fun _ _ => rfl)), by rw [HM.out]; exact Lib.hid HW8.out, HG6, Lib.hid (below_drewN' HB8.out nq)⟩
              case measure => simp [intOf]; omega
      · obtain rfl : l.length = j := by omega
        obtain ⟨ns, hnse⟩ : ∃ ns, madeS (l.take l.length) = ns := ⟨_, rfl⟩
        rw [hnse] at HA HW hlen
        clear hnse
        obtain ⟨A2, c2, hu4⟩ := HW.out.len
        subst hu4
        go_wp2_with fail
        refine (S.node (ns.length : Int) HA.out (by unfold I64; omega) (by omega)).mono ?_
        rintro e w3 ⟨y, rfl, _, hb3⟩
        rw [decide_eq_false (show ¬ ((0 : Int) ≤ (ns.length : Int) ∧ (ns.length : Int) < (ns.length : Int)) by omega)]
        have HA3 := Lib.hid (S.next HA.out hb3)
        have HB3 := Lib.hid (HB.out.trans (hb3.mono HB.out.size))
        have hbx := boxN_next w3 y
        have HA4 := Lib.hid (S.next HA3.out hbx)
        have HB4 := Lib.hid (HB3.out.trans (hbx.mono HB3.out.size))
        have hone := Nd.one y
        clear hb3 hbx
        go_wp2_with (first
          | (with_reducible show wpList _ _ _ ({ dst := none, op := .store _ _ _, type := _, pos := _, after := _, guard := _ } :: _) _ _
             refine wpList_store_row rfl 34 _ _ rfl w3.heap.size y.cs.toArray rfl rfl 34 Nd.zero.cs.toArray (At.new _ _ _) (by kernel_rfl) rfl hone ?_
             first | change wpList _ _ _ _ _ (boxN w3 y) | change Exit.then _ _ _ _ (boxN w3 y))
          | fail)
        refine (S.node (-1) HA4.out (by unfold I64; omega) (by omega)).mono ?_
        rintro e w5 ⟨z, rfl, _, hb5⟩
        rw [decide_eq_false (show ¬ ((0 : Int) ≤ (-1 : Int) ∧ (-1 : Int) < (ns.length : Int)) by omega)]
        have HB5 := Lib.hid (HB4.out.trans (hb5.mono HB4.out.size))
        have hbz := boxN_next w5 z
        have HB6 := Lib.hid (HB5.out.trans (hbz.mono HB5.out.size))
        have hone2 := Nd.one z
        clear hb5 hbz
        go_wp2_with (first
          | (with_reducible show wpList _ _ _ ({ dst := none, op := .store _ _ _, type := _, pos := _, after := _, guard := _ } :: _) _ _
             refine wpList_store_row rfl 34 _ _ rfl w5.heap.size z.cs.toArray rfl rfl 34 Nd.zero.cs.toArray (At.new _ _ _) (by kernel_rfl) rfl hone2 ?_
             first | change wpList _ _ _ _ _ (boxN w5 z) | change Exit.then _ _ _ _ (boxN w5 z))
          | fail)
        go_ret
        exact ⟨rfl, HB6.out⟩
end

end Go.Proofs.Ytoicbahkoejhjaa
