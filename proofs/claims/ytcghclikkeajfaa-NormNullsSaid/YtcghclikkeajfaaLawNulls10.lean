/- bolterlaw10.NormNulls, by what putting together does. -/
import Derived.Test.YtcghclikkeajfaaNormAwake
import Derived.Test.YtcghclikkeajfaaNodeSpans
import Derived.Test.YtcghclikkeajfaaLawPuts9
namespace Go.Proofs.Ytcghclikkeajfaa
open Go.RowKit
set_option linter.unusedSimpArgs false
set_option linter.unusedVariables false

theorem spansN (nm : List Nd) (l bits : List Nat) (A7 A B : Option Addr) (c7 ca cb n N i : Nat) (hn : n = l.length) (hN : N = n + 1) (h100 : n ≤ 100) (hnm : nm.length ≤ 100000) (hok : ∀ j, j < nm.length → NdOk (ndAt nm j) j) (hi : i < nm.length) (w0 : World)
    (hv : NdsAt w0 (.slice A7 nm.length c7) nm) (hb : IsBytes w0 A n l) (hbits : IsBytes w0 B N bits) :
    Calls Try.prog 22 #[.slice A7 nm.length c7, .slice A n ca, .slice B N cb] w0 fun e w' => ∃ g m cap ga ra, e = .returned (.slice (some ⟨g, 0, none⟩) m cap) ∧ i < m ∧ w'.cell? ⟨g, i, none⟩ = some (.slice (some ⟨ga, 0, none⟩) N N) ∧ TabAt w' 44 4 w0.heap.size ga N ra (nodeT l bits nm i) ∧ g < w'.heap.size ∧ Below w0.heap.size w0 w' := by
  subst hn
  refine (refNodeSpans nm l bits _ A B ca cb N hN h100 (by omega) hok w0 hv hb hbits).mono ?_
  rintro e w' ⟨v, ts, rfl, hts, hbl⟩
  have hlen := hts.len
  rw [nodesF_length] at hlen
  obtain ⟨g, cap, rfl, _, hg⟩ := hts.form (by omega)
  have h1 : i < ts.length := by omega
  have h2 : i < (nodesF l bits nm nm.length).length := by rw [nodesF_length]; exact hi
  have ht := hts.tab i h1 h2
  have hc := hts.cell i h1
  have e : nodeT l bits nm i = (nodesF l bits nm nm.length)[i] := by unfold nodeT fAt; rw [Int.toNat_natCast, List.getElem?_eq_getElem h2]; rfl
  rw [← e] at ht
  exact ⟨g, _, cap, _, _, rfl, h1, hc, ht, hg, hbl⟩
theorem one_byte (w : World) (b : Nat) (hb : b < 256) (t : TypeId) : IsBytes (w.alloc (.cells #[.int .u8 b] t)) (some ⟨w.heap.size, 0, none⟩) 1 [b] :=
  ⟨rfl, by omega, fun k hk => by
    have hk : k < 1 := hk
    obtain rfl : k = 0 := by omega
    exact hb, fun _ => ⟨w.heap.size, 0, rfl, by simp, fun k hk => by
    have h := (At.new w t #[.int .u8 b]).cell (0 + k)
    rw [h]
    have hk : k < 1 := hk
    obtain rfl : k = 0 := by omega
    rfl⟩⟩
section
variable {AA : World → Value → List Nd → (Nat → Prop) → Prop}

set_option maxRecDepth 100000 in
set_option maxHeartbeats 16000000 in
theorem lawNulls10 (S : ArenaBig AA) (N : NormSpec AA) (ls : List Nd) (v0 : Value) (id : Int) (bits : Nat) (w : World) (hv : NdsAt w v0 ls) (hf : ∀ j, j < ls.length → NdFit (ndAt ls j)) (hid : I64 id) (hbits : bits < 256) :
    Calls Try.prog 4 #[v0, .int .i64 id, .int .u8 bits] w fun e w' => e = .returned (.bool true) ∧ Below w.heap.size w w' := by
  have HV := Lib.hid hv
  have h63 : ls.length ≤ 9223372036854775807 := hv.choose_spec.choose_spec.2.1
  obtain ⟨A0, c0, rfl, _, _⟩ := HV.out
  have HF := Lib.hid hf
  have HI := Lib.hid hid
  have HBits := Lib.hid hbits
  clear hv hf hbits
  obtain ⟨vf, hvf⟩ : ∃ v, decide (ls.length ≤ 40) = v := ⟨_, rfl⟩
  have HVf := Lib.hid hvf
  clear hvf
  go_enter Try.func4, Try.ntmps4
  go_wp2_with fail
  refine (lawAwake10 S N w).mono ?_
  rintro e w1 ⟨rfl, hB1⟩
  have HB1 := Lib.hid hB1
  clear hB1
  go_wp2_with fail
  refine (fewN _ _ _ w1 vf HVf.out).mono ?_
  rintro e w2 ⟨rfl, rfl⟩
  cases vf
  · go_wp2_with fail
    refine (lawAwake10 S N w1).mono ?_
    rintro e w2 ⟨rfl, hB2⟩
    have HB2 := Lib.hid (HB1.out.trans (hB2.mono HB1.out.size))
    clear hB2
    go_wp2_with fail
    go_ret
    exact ⟨rfl, HB2.out⟩
  have h40 : ls.length ≤ 40 := of_decide_eq_true HVf.out
  go_wp2_with fail
  refine (lawMadeB S ls _ (by omega) w1 (HV.out.next HB1.out) HF.out).mono ?_
  rintro e w2 ⟨a, F, rfl, hA2, hF2, hB2⟩
  have HA2 := Lib.hid hA2
  have HB2 := Lib.hid (HB1.out.trans (hB2.mono HB1.out.size))
  have hns := made_le ls
  clear hA2 hF2 hB2
  obtain ⟨ns, hnse⟩ : ∃ ns, madeS ls = ns := ⟨_, rfl⟩
  rw [hnse] at HA2 hns
  clear hnse
  have hn40 : ns.length ≤ 40 := by omega
  have HOk : Hid (∀ j, j < ns.length → NdOk (ndAt ns j) j) := Lib.hid (fun j hj => (S.fine HA2.out).ok j hj)
  by_cases h0 : id < 0
  · have h01 : decide (id < 0) = true := decide_eq_true h0
    have HNu : Hid (nullS ns bits id = false) := Lib.hid (by unfold nullS; rw [decide_eq_false (by omega), Bool.false_and])
    have HNull := Lib.hid (N.null id bits HA2.out HI.out HBits.out)
    go_wp2_with fail
    refine HNull.out.mono ?_
    rintro e w3 ⟨rfl, hb3⟩
    rw [HNu.out]
    have HB3 := Lib.hid (HB2.out.trans (hb3.mono HB2.out.size))
    clear hb3
    go_wp2_with fail
    go_ret
    exact ⟨rfl, HB3.out⟩
  have h01 : decide (id < 0) = false := decide_eq_false h0
  obtain ⟨i, rfl⟩ : ∃ i : Nat, id = (i : Int) := ⟨id.toNat, by omega⟩
  have HI0 := Lib.hid h0
  have hi0 : (0 : Int) ≤ (i : Int) := by omega
  clear h0 hid
  go_wp2_with fail
  refine (S.len HA2.out).mono ?_
  rintro e w3 ⟨rfl, q3, rfl⟩
  have HA3 : Hid (AA (w2.drewN q3) a ns F) := Lib.hid (S.keep HA2.out (fun _ _ => rfl))
  have HB3 := Lib.hid (below_drewN' HB2.out q3)
  obtain ⟨w3, hw3⟩ : ∃ w3, w3 = w2.drewN q3 := ⟨_, rfl⟩
  rw [← hw3] at HA3 HB3 ⊢
  clear hw3
  have HNull := Lib.hid (N.null (i : Int) bits HA3.out HI.out HBits.out)
  by_cases hin : i < ns.length
  · have hin1 : (i : Int) < (ns.length : Int) := by omega
    have hin2 : ¬ (ns.length : Int) ≤ (i : Int) := by omega
    have HNu : Hid (nullS ns bits i = nodeT [] [bits] ns i 0 0) := Lib.hid (by unfold nullS; rw [decide_eq_true (by omega), Bool.true_and])
    go_wp2_with fail
    refine HNull.out.mono ?_
    rintro e w4 ⟨rfl, hb4⟩
    rw [HNu.out]
    have HA4 := Lib.hid (S.next HA3.out hb4)
    have HB4 := Lib.hid (HB3.out.trans (hb4.mono HB3.out.size))
    clear hb4
    go_wp2_with fail
    refine (refNodesB S ns a F (by omega) w4 HA4.out).mono ?_
    rintro e w5 ⟨v7, rfl, hn7, hb5⟩
    have HB5 := Lib.hid (HB4.out.trans (hb5.mono HB4.out.size))
    obtain ⟨A7, c7, hv7, h7a, h7b⟩ := hn7.nds (by omega)
    subst hv7
    have HN7 : Hid (NdsAt w5 (.slice A7 ns.length c7) ns) := Lib.hid ⟨A7, c7, rfl, h7a, h7b⟩
    have HN8 := Lib.hid (HN7.out.next ((Below.refl _ _).alloc (Nat.le_refl _) (.cells #[.int .u8 bits] 5)))
    have HB6 := Lib.hid (HB5.out.alloc HB5.out.size (.cells #[.int .u8 bits] 5))
    have HOne := Lib.hid (one_byte w5 bits HBits.out 5)
    clear hn7 hb5 h7a h7b
    go_wp2_with fail
    refine (spansN ns [] [bits] A7 none _ c7 0 1 0 1 i rfl rfl (by omega) (by omega) HOk.out hin _ HN8.out ⟨rfl, by omega, fun k hk => absurd hk (Nat.not_lt_zero _), fun q => absurd q (by omega)⟩ HOne.out).mono ?_
    rintro e w7 ⟨g, m, cap, ga, ra, rfl, him, hc, ht, hg, hb7⟩
    have him1 : (i : Int) < (m : Int) := by omega
    have t0 := ht.cellTop (show 0 < 1 by omega)
    have t1 := ht.cellRow (show 0 < 1 by omega) (show 0 < 1 by omega)
    have HB7 := Lib.hid (HB6.out.trans (hb7.mono HB6.out.size))
    obtain ⟨x, hx⟩ : ∃ x, nodeT [] [bits] ns i 0 0 = x := ⟨_, rfl⟩
    rw [hx] at t1
    rw [hx]
    clear ht hb7 hx
    go_wp2_with fail
    go_ret
    exact ⟨by cases x <;> rfl, HB7.out⟩
  · have hin1 : (ns.length : Int) ≤ (i : Int) := by omega
    have HNu : Hid (nullS ns bits i = false) := Lib.hid (by unfold nullS; rw [decide_eq_false (by omega), Bool.false_and])
    go_wp2_with fail
    refine HNull.out.mono ?_
    rintro e w4 ⟨rfl, hb4⟩
    rw [HNu.out]
    have HB4 := Lib.hid (HB3.out.trans (hb4.mono HB3.out.size))
    clear hb4
    go_wp2_with fail
    go_ret
    exact ⟨rfl, HB4.out⟩
end

end Go.Proofs.Ytcghclikkeajfaa
