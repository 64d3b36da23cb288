/- bolterlaw09.ArenaSets, by what an arena does. -/
import Derived.Test.YtoicbahkoejhjaaArenaAwake
import Derived.Test.YtoicbahkoejhjaaNodeRow
import Derived.Test.YtoicbahkoejhjaaSetEq
import Derived.Deep.QuietTactic
import Derived.BigQuiet
namespace Go.Proofs.Ytoicbahkoejhjaa
open Go.RowKit
set_option linter.unusedSimpArgs false
set_option linter.unusedVariables false
section
variable {AA : World → Value → List Nd → (Nat → Prop) → Prop}

set_option maxRecDepth 100000 in
set_option maxHeartbeats 16000000 in
theorem lawSets9 (S : ArenaSpec AA) (l : List Nd) (v0 : Value) (id : Int) (w : World) (hv : NdsAt w v0 l) (hf : ∀ j, j < l.length → NdFit (ndAt l j)) (hid : I64 id) :
    Calls Try.prog 5 #[v0, .int .i64 id] w fun e w' => e = .returned (.bool true) ∧ Below w.heap.size w w' := by
  have HV := Lib.hid hv
  have h63 : l.length ≤ 9223372036854775807 := hv.choose_spec.choose_spec.2.1
  obtain ⟨A0, c0, rfl, _, _⟩ := HV.out
  have HF := Lib.hid hf
  have HI := Lib.hid hid
  clear hv hf
  go_enter Try.func5, Try.ntmps5
  go_wp2_with fail
  refine (lawAwake9 S w).mono ?_
  rintro e w1 ⟨rfl, hB1⟩
  have HB1 := Lib.hid hB1
  clear hB1
  by_cases hlong : 14 < l.length
  · have hlong1 : decide (14 < l.length) = true := decide_eq_true hlong
    have hlong2 : (14 : Int) < (l.length : Int) := by omega
    go_wp2_with fail
    refine (lawAwake9 S w1).mono ?_
    rintro e w2 ⟨rfl, hB2⟩
    have HB2 := Lib.hid (HB1.out.trans (hB2.mono HB1.out.size))
    clear hB2
    go_wp2_with fail
    go_ret
    exact ⟨rfl, HB2.out⟩
  · have hlong1 : decide (14 < l.length) = false := decide_eq_false hlong
    have hlong2 : ¬ (14 : Int) < (l.length : Int) := by omega
    go_wp2_with fail
    refine (lawMade S l _ (by omega) w1 (HV.out.next HB1.out) HF.out).mono ?_
    rintro e w2 ⟨a, F, rfl, hA2, hF2, hB2⟩
    have HA2 := Lib.hid hA2
    have HB2 := Lib.hid (HB1.out.trans (hB2.mono HB1.out.size))
    clear hA2 hF2 hB2
    have hns := made_le l
    obtain ⟨ns, hnse⟩ : ∃ ns, madeS l = ns := ⟨_, rfl⟩
    rw [hnse] at HA2 hns
    clear hnse
    have HFn := Lib.hid (S.fine HA2.out)
    have hn14 : ns.length ≤ 14 := by omega
    go_wp2_with fail
    refine (S.sets id HA2.out HI.out (by omega)).mono ?_
    rintro e w3 ⟨A3, n3, c3, got, rfl, hs3, hin, hout, hB3⟩
    have HS3 := Lib.hid hs3
    have HA3 := Lib.hid (S.next HA2.out hB3)
    have HB3 := Lib.hid (HB2.out.trans (hB3.mono HB2.out.size))
    have HIn := Lib.hid hin
    have HOut := Lib.hid hout
    clear hs3 hB3 hin hout
    go_wp2_with fail
    refine (refNodes S ns a F (by omega) w3 HA3.out).mono ?_
    rintro e w4 ⟨v4, rfl, hr4, hB4⟩
    have hnd := hr4.nds (by omega)
    have HN4 := Lib.hid hnd
    have HS4 := Lib.hid (HS3.out.below (Nat.le_refl _) hB4)
    have HB4 := Lib.hid (HB3.out.trans (hB4.mono HB3.out.size))
    obtain ⟨A4, c4, rfl, _, _⟩ := hnd
    clear hr4 hB4
    have hn3 : n3 = got.length := HS4.out.1
    by_cases hneg : id < 0
    · have hg : got = [] := HOut.out (by omega)
      subst hg
      have hn30 : n3 = 0 := by simpa using hn3
      subst hn30
      clear hn3
      go_wp2_with fail
      go_ret
      exact ⟨rfl, HB4.out⟩
    · have hneg1 : decide (id < 0) = false := decide_eq_false hneg
      by_cases hbig : (ns.length : Int) ≤ id
      · have hg : got = [] := HOut.out (by omega)
        subst hg
        have hn30 : n3 = 0 := by simpa using hn3
        subst hn30
        clear hn3
        go_wp2_with fail
        go_ret
        exact ⟨rfl, HB4.out⟩
      · have hbig1 : decide ((ns.length : Int) ≤ id) = false := decide_eq_false hbig
        obtain ⟨q, rfl⟩ : ∃ q : Nat, id = (q : Int) := ⟨id.toNat, by omega⟩
        have hg := HIn.out ⟨by omega, by omega⟩
        rw [Int.toNat_natCast] at hg
        subst hg
        have HL := Lib.hid hn3
        have hqn : q < ns.length := by omega
        have hbig2 : decide (ns.length ≤ q) = false := decide_eq_false (by omega)
        have HOKn : Hid (∀ j, j < ns.length → NdOk (ndAt ns j) j) := Lib.hid HFn.out.ok
        clear hn3 HIn HOut HI hid
        go_wp2_with fail
        go_loopw [8, 38] (fun k x wr => ∃ j : Nat, j ≤ ns.length ∧ x = .int .i64 j ∧ k = .int .i64 ((setsTo ns q j).length : Nat) ∧ Hid (Below w4.heap.size w4 wr)) (fun _ x _ => ns.length - (intOf x).toNat)
        case atStart => exact ⟨0, Nat.zero_le _, rfl, rfl, Lib.hid (Below.refl _ _)⟩
        case round =>
          obtain ⟨j, hj, rfl, rfl, HB⟩ := hrel
          by_cases hjl : j < ns.length
          · have hjz : (0 : Int) ≤ (j : Int) := by omega
            have hjn : (j : Int) < (ns.length : Int) := by omega
            have hqz : (0 : Int) ≤ (q : Int) := by omega
            have hqn' : (q : Int) < (ns.length : Int) := by omega
            have HNr := Lib.hid (HN4.out.next HB.out)
            obtain ⟨A', cap, e1, _, h3⟩ := HNr.out
            injection e1 with e1 _ e3
            subst e1
            subst e3
            obtain ⟨b, off, rfl, hbb, hr⟩ := h3 (by omega)
            have HR := Lib.hid (hr j hjl)
            have hkk := setsTo_le ns q j
            obtain ⟨kk, hkke⟩ : ∃ kk, (setsTo ns q j).length = kk := ⟨_, rfl⟩
            obtain ⟨x, hx⟩ : ∃ x, ndAt ns j = x := ⟨_, rfl⟩
            have HX := Lib.hid hx
            have HK := Lib.hid hkke
            rw [hx] at HR
            rw [hkke] at hkk ⊢
            have n0 : wr.cell? ⟨b, off + j * 8, none⟩ = some (.int .i64 x.kind) := HR.out 0 _ rfl
            clear hr hbb h3 hx hkke
            by_cases hk2 : x.kind = 2
            · have HK2 := Lib.hid hk2
              rw [hk2] at n0
              clear hk2
              go_wp2_with fail
              refine (lawBelow ns j _ (by omega) (by omega) HOKn.out (q + 1) q wr (by omega) hqn HNr.out).mono ?_
              rintro e w5 ⟨rfl, hb5⟩
              have HB5 := Lib.hid (HB.out.trans (hb5.mono HB.out.size))
              have HR5 : Hid (w5.rangeAt b (off + j * 8) x.cs) := Lib.hid (fun i u hu => by
                obtain ⟨_, _, e1, _, h3⟩ := HNr.out
                obtain ⟨b', off', e2, hbb', _⟩ := h3 (by omega)
                injection e1 with e1 _ _
                rw [← e1] at e2
                injection e2 with e2
                injection e2 with e2 _ _
                subst e2
                exact ((bcell hb5).1 _ _ hbb').trans (HR.out i u hu))
              clear hb5 n0
              obtain ⟨vb, hvb⟩ : ∃ v, belowS ns j (q + 1) (q : Int) = v := ⟨_, rfl⟩
              rw [hvb]
              have HVb := Lib.hid hvb
              clear hvb
              cases vb
              · go_wp2_with fail
                go_roundw
                case rel => exact ⟨j + 1, by omega, by go_num, by rw [setsTo_no (Or.inr HVb.out), HK.out], HB5⟩
                case measure => simp [intOf]; omega
              · have hat := setsTo_at hjl (by rw [HX.out]; exact HK2.out) HVb.out
                rw [HK.out, HX.out] at hat
                obtain ⟨hlt, hget⟩ := hat
                have hkn : kk < n3 := by have := HL.out; omega
                have hkz : (0 : Int) ≤ (kk : Int) := by omega
                have hkn1 : (kk : Int) < (n3 : Int) := by omega
                have hkn2 : decide ((n3 : Int) ≤ (kk : Int)) = false := decide_eq_false (by omega)
                have hkn3 : decide (n3 ≤ kk) = false := decide_eq_false (by omega)
                obtain ⟨b3, off3, rfl, _, hc3⟩ := (HS4.out.below (Nat.le_refl _) HB5.out).2.2.2 (by omega)
                have hgot : (setsTo ns q ns.length)[kk] = x.set := by
                  rw [List.getElem?_eq_getElem hlt] at hget
                  injection hget
                obtain ⟨g0, g1, g2, g3⟩ := hc3 kk hlt
                rw [hgot] at g0 g1 g2 g3
                have m1 : w5.cell? ⟨b, off + j * 8 + 1, none⟩ = some (.int .u64 x.set.w0) := HR5.out 1 _ rfl
                have m2 : w5.cell? ⟨b, off + j * 8 + 2, none⟩ = some (.int .u64 x.set.w1) := HR5.out 2 _ rfl
                have m3 : w5.cell? ⟨b, off + j * 8 + 3, none⟩ = some (.int .u64 x.set.w2) := HR5.out 3 _ rfl
                have m4 : w5.cell? ⟨b, off + j * 8 + 4, none⟩ = some (.int .u64 x.set.w3) := HR5.out 4 _ rfl
                have hq := fun W => setEq W x.set x.set true (St.eqb_self _)
                have HY := Lib.hid (setsTo_yes (by rw [HX.out]; exact HK2.out) HVb.out)
                clear hc3 hgot hget hlt
                go_wp2_with fail
                go_quiet (fail)
                go_wp2_with fail
                go_roundw
                case rel => exact ⟨j + 1, by omega, by go_num, by rw [HY.out, List.length_append, HK.out]; go_num, Lib.hid (below_drewN' HB5.out nq)⟩
                case measure => simp [intOf]; omega
            · have hk3 := (int_ne hk2).1
              go_wp2_with fail
              refine ⟨⟨j + 1, by omega, by go_num, ?_, HB⟩, by simp [intOf]; omega⟩
              rw [setsTo_no (Or.inl (by rw [HX.out]; exact hk2)), HK.out]
          · obtain rfl : ns.length = j := by omega
            have hfin : (setsTo ns q ns.length).length = n3 := HL.out.symm
            rw [hfin]
            clear hfin
            go_wp2_with fail
            go_ret
            exact ⟨rfl, HB4.out.trans (HB.out.mono HB4.out.size)⟩
end

end Go.Proofs.Ytoicbahkoejhjaa
