/- bolterlaw07.early: the first thing that is wrong. -/
import Derived.Test.YtkbfoelffeocmaaGreatLawCyc
import Derived.Test.YtkbfoelffeocmaaGreatWordsRef
import Derived.Test.YtkbfoelffeocmaaGreatMb
namespace Go.Proofs.YtkbfoelffeocmaaGreat
open Go.RowKit
set_option linter.unusedSimpArgs false
set_option linter.unusedVariables false

theorem early_wide {ms : List (ByteArray × ByteArray)} (h : 20 < ms.length) : earlyS ms = (20, 0, 4) := by unfold earlyS; rw [if_pos h]
theorem early_names {ms : List (ByteArray × ByteArray)} (h : ¬ 20 < ms.length) (h2 : (namesF ms ms.length 0).2 ≠ 0) : earlyS ms = ((namesF ms ms.length 0).1, 0, (namesF ms ms.length 0).2) := by unfold earlyS; rw [if_neg h, if_pos h2]
theorem early_texts {ms : List (ByteArray × ByteArray)} (h : ¬ 20 < ms.length) (h2 : (namesF ms ms.length 0).2 = 0) (h3 : (textsF ms ms.length 0).2.2 ≠ 0) : earlyS ms = textsF ms ms.length 0 := by unfold earlyS; rw [if_neg h, if_neg (by simp [h2]), if_pos h3]
theorem early_cyc {ms : List (ByteArray × ByteArray)} (h : ¬ 20 < ms.length) (h2 : (namesF ms ms.length 0).2 = 0) (h3 : (textsF ms ms.length 0).2.2 = 0) : earlyS ms = cycT (cycF (clos (mat0 ms) 20) ms.length 0) := by
  unfold earlyS
  rw [if_neg h, if_neg (by simp [h2]), if_neg (by simp [h3])]
  have := cycF_cut (clos (mat0 ms) 20) ms.length (20 - ms.length) 0 (fun j hj => clos_out (by omega))
  rw [show ms.length + (20 - ms.length) = 20 by omega] at this
  rw [this]
def ThereTo (ms : List (ByteArray × ByteArray)) (x : Wd × Nat) (k : Nat) : Bool := decide (x.1.kind ≠ 11) || (List.range k).any (fun j => decide ((atM ms j).1 = x.1.name))
theorem ThereTo.zero (ms : List (ByteArray × ByteArray)) (x : Wd × Nat) : ThereTo ms x 0 = decide (x.1.kind ≠ 11) := by unfold ThereTo; simp
theorem ThereTo.succ (ms : List (ByteArray × ByteArray)) (x : Wd × Nat) (k : Nat) : ThereTo ms x (k + 1) = (ThereTo ms x k || decide ((atM ms k).1 = x.1.name)) := by
  unfold ThereTo
  rw [List.range_succ, List.any_append]
  simp [Bool.or_assoc]
theorem ThereTo.all (ms : List (ByteArray × ByteArray)) (x : Wd × Nat) : ThereTo ms x ms.length = true ↔ ¬ (x.1.kind = 11 ∧ findM ms x.1.name 0 < 0) := by
  unfold ThereTo
  rw [Bool.or_eq_true, List.any_eq_true]
  constructor
  · rintro (h | ⟨j, hj, h⟩) ⟨h1, h2⟩
    · exact of_decide_eq_true h h1
    · exact findM_neg.1 h2 _ (atM_mem (List.mem_range.1 hj)) (of_decide_eq_true h)
  · intro h
    by_cases hk : x.1.kind = 11
    · right
      obtain ⟨j, hj, _, e⟩ := findM_lt (ms := ms) (nm := x.1.name) (fun q => h ⟨hk, q⟩)
      exact ⟨j, List.mem_range.2 hj, decide_eq_true e⟩
    · left; exact decide_eq_true hk

set_option maxRecDepth 100000 in
set_option maxHeartbeats 8000000 in
theorem lawEarly (ms : List (ByteArray × ByteArray)) (A : Option Addr) (n c : Nat) (w : World) (hm : MacsAt w (.slice A n c) ms) (hsh : ShortM ms) :
    Calls Tryz.prog 7 #[.slice A n c] w fun e w' => e = .returned (.tuple #[.int .i64 (earlyS ms).1, .int .i64 (earlyS ms).2.1, .int .i64 (earlyS ms).2.2]) ∧ Below w.heap.size w w' := by
  obtain rfl := hm.len
  have hln := hm.choose_spec.choose_spec.2.1
  have HM := Lib.hid hm
  have HSH := Lib.hid hsh
  obtain ⟨E, hE⟩ : ∃ E, earlyS ms = E := ⟨_, rfl⟩
  have HE := Lib.hid hE
  rw [hE]
  clear hm hsh hE
  go_enter Tryz.func7, Tryz.ntmps7
  by_cases h20 : 20 < ms.length
  · have h20' : (20 : Int) < (ms.length : Int) := by omega
    have HX : Hid (E = (20, 0, 4)) := Lib.hid (by rw [← HE.out, early_wide h20])
    go_wp2_with fail
    exact bodyPost_ret (v := .tuple #[.int .i64 20, .int .i64 0, .int .i64 4]) (by simp [results, Tryz.results7, go_sem]) rfl ⟨by rw [HX.out], Below.refl _ _⟩
  have h20' : ¬ (20 : Int) < (ms.length : Int) := by omega
  have H20 := Lib.hid h20
  go_wp2_with fail
  obtain ⟨N, hN⟩ : ∃ N, namesF ms ms.length 0 = N := ⟨_, rfl⟩
  have HN := Lib.hid hN
  have HNE : Hid (N.2 ≠ 0 → E = (N.1, 0, N.2)) := Lib.hid (fun q => by rw [← HE.out, early_names h20 (by rw [hN]; exact q), hN])
  clear hN h20 h20'
  go_loopw [20] (fun i wr => ∃ (j : Nat), j ≤ ms.length ∧ i = .int .i64 j ∧ Hid (namesF ms (ms.length - j) j = N) ∧ Hid (Below w.heap.size w wr)) (fun i _ => ms.length - (intOf i).toNat)
  case atStart => exact ⟨0, Nat.zero_le _, rfl, HN, Lib.hid (Below.refl _ _)⟩
  case round =>
    obtain ⟨j, hj, rfl, HJ, HB⟩ := hrel
    by_cases hjl : j < ms.length
    · have hjz : (0 : Int) ≤ (j : Int) := by omega
      have hjn : (j : Int) < (ms.length : Int) := by omega
      have HMr := Lib.hid (HM.out.next HB.out)
      obtain ⟨A', cap, e1, _, h3⟩ := id HMr.out
      injection e1 with e1 _ e3
      subst e1
      subst e3
      obtain ⟨b, off, rfl, hb, hr⟩ := h3 (by omega)
      have c0 : wr.cell? ⟨b, off + j * 2, none⟩ = some (.string (atM ms j).1) := hr j hjl 0 _ rfl
      have HCK : Hid (∀ k, k < ms.length → wr.cell? ⟨b, off + k * 2, none⟩ = some (.string (atM ms k).1)) := Lib.hid (fun k hk => hr k hk 0 _ rfl)
      have HS1 := Lib.hid (HSH.out j hjl).1
      have HD : Hid ((if namedS (atM ms j).1 = false then ((j : Int), 2) else if 0 ≤ findM (ms.take j) (atM ms j).1 0 then ((j : Int), 6) else namesF ms (ms.length - (j + 1)) (j + 1)) = N) := Lib.hid (by
        have := HJ.out
        rw [show ms.length - j = (ms.length - (j + 1)) + 1 by omega] at this
        exact this)
      obtain ⟨m, hm⟩ : ∃ m, atM ms j = m := ⟨_, rfl⟩
      have HMJ := Lib.hid hm
      rw [hm] at c0 HD HS1
      clear hr h3 hb hm
      go_wp2_with fail
      refine (refNamed m.1 (by have := HS1.out; omega) wr).mono ?_
      rintro e w2 ⟨rfl, rfl⟩
      cases hnm : namedS m.1 with
      | false =>
        have HX : Hid (E = ((j : Int), 0, 2)) := Lib.hid (by
          have h := HD.out
          rw [if_pos hnm] at h
          rw [HNE.out (by rw [← h]; show ¬ (2 : Int) = 0; decide), ← h])
        clear hnm
        go_wp2_with fail
        exact bodyPost_ret (v := .tuple #[.int .i64 j, .int .i64 0, .int .i64 2]) (by simp [results, Tryz.results7, go_sem]) rfl ⟨by rw [HX.out], HB.out⟩
      | true =>
        have HD2 : Hid ((if 0 ≤ findM (ms.take j) m.1 0 then ((j : Int), 6) else namesF ms (ms.length - (j + 1)) (j + 1)) = N) := Lib.hid (by have := HD.out; rw [if_neg (by rw [hnm]; decide)] at this; exact this)
        clear hnm
        go_wp2_with fail
        have C0 := Lib.hid c0
        go_loopw [32] (fun k' wr' => ∃ (k : Nat), k ≤ j ∧ k' = .int .i64 k ∧ Hid (∀ q, q < k → (atM ms q).1 ≠ m.1) ∧ Hid (∃ nq, wr' = wr.drewN nq)) (fun k' _ => j - (intOf k').toNat)
        case atStart => exact ⟨0, Nat.zero_le _, rfl, Lib.hid (fun q hq => absurd hq (Nat.not_lt_zero _)), Lib.hid ⟨0, rfl⟩⟩
        case round =>
          obtain ⟨k, hk, rfl, HK, HE2⟩ := hrel
          obtain ⟨nq, rfl⟩ := HE2.out
          by_cases hkl : k < j
          · have hkz : (0 : Int) ≤ (k : Int) := by omega
            have hkj : (k : Int) < (j : Int) := by omega
            have hkn : (k : Int) < (ms.length : Int) := by omega
            have ck := HCK.out k (by omega)
            obtain ⟨m2, hm2⟩ : ∃ m2, atM ms k = m2 := ⟨_, rfl⟩
            have HM2 := Lib.hid hm2
            rw [hm2] at ck
            clear hm2
            by_cases hnm : m2.1 = m.1
            · have hnb := str_eq hnm
              have HX : Hid (E = ((j : Int), 0, 6)) := Lib.hid (by
                have h := HD2.out
                have hf : 0 ≤ findM (ms.take j) m.1 0 := by
                  apply Int.not_lt.1
                  intro hlt
                  have hmem : ms[k] ∈ ms.take j := by rw [List.mem_take_iff_getElem]; exact ⟨k, by omega, rfl⟩
                  exact findM_neg.1 hlt _ hmem (by rw [← atM_lt (show k < ms.length by omega), HM2.out]; exact hnm)
                rw [if_pos hf] at h
                rw [HNE.out (by rw [← h]; show ¬ (6 : Int) = 0; decide), ← h])
              clear hnm
              go_wp2_with fail
              go_quiet (fail)
              go_wp2_with fail
              exact bodyPost_ret (v := .tuple #[.int .i64 j, .int .i64 0, .int .i64 6]) (by simp [results, Tryz.results7, go_sem]) rfl ⟨by rw [HX.out], by first | exact below_drewN HB.out _ | exact below_drewN (below_drewN HB.out _) _⟩
            · have hnb := str_ne hnm
              have HK2 : Hid (∀ q, q < k + 1 → (atM ms q).1 ≠ m.1) := Lib.hid (fun q hq => by
                by_cases e : q = k
                · subst e; rw [HM2.out]; exact hnm
                · exact HK.out q (by omega))
              clear hnm
              go_wp2_with fail
              go_quiet (fail)
              go_wp2_with fail
              exact ⟨⟨k + 1, by omega, by go_num, HK2, Lib.hid ⟨_, rfl⟩⟩, by simp [intOf]; omega⟩
          · obtain rfl : k = j := by omega
            have HD3 : Hid (namesF ms (ms.length - (k + 1)) (k + 1) = N) := Lib.hid (by
              have h := HD2.out
              rw [if_neg (by
                apply Int.not_le.2
                rw [findM_neg]
                intro m' hm'
                obtain ⟨q, hq, e⟩ := mem_atM hm'
                have hq' : q < k := by rw [List.length_take] at hq; omega
                rw [← e, atM_take hq']
                exact HK.out q hq')] at h
              exact h)
            go_wp2_with fail
            exact ⟨⟨k + 1, by omega, by go_num, HD3, Lib.hid (below_drewN HB.out _)⟩, by simp [intOf]; omega⟩
    · obtain rfl : j = ms.length := by omega
      have HN0 : Hid ((namesF ms ms.length 0).2 = 0) := Lib.hid (by rw [HN.out, ← HJ.out, Nat.sub_self]; rfl)
      clear HN HNE HJ hj hjl
      obtain ⟨T, hT⟩ : ∃ T, textsF ms ms.length 0 = T := ⟨_, rfl⟩
      have HT := Lib.hid hT
      have HTE : Hid (T.2.2 ≠ 0 → E = T) := Lib.hid (fun q => by rw [← HE.out, early_texts H20.out HN0.out (by rw [hT]; exact q), hT])
      clear hT
      go_wp2_with fail
      go_loopw [51] (fun i wr => ∃ (j : Nat), j ≤ ms.length ∧ i = .int .i64 j ∧ Hid (textsF ms (ms.length - j) j = T) ∧ Hid (Below w.heap.size w wr)) (fun i _ => ms.length - (intOf i).toNat)
      case atStart => exact ⟨0, Nat.zero_le _, rfl, HT, HB⟩
      case round =>
        clear HB
        obtain ⟨i, hi, rfl, HJ, HB⟩ := hrel
        by_cases hil : i < ms.length
        · have hiz : (0 : Int) ≤ (i : Int) := by omega
          have hin : (i : Int) < (ms.length : Int) := by omega
          have HMr := Lib.hid (HM.out.next HB.out)
          obtain ⟨A', cap, e1, _, h3⟩ := id HMr.out
          injection e1 with e1 _ e3
          subst e1
          subst e3
          obtain ⟨b, off, rfl, hb, hr⟩ := h3 (by omega)
          have c1 : wr.cell? ⟨b, off + i * 2 + 1, none⟩ = some (.string (atM ms i).2) := hr i hil 1 _ rfl
          have HCK : Hid (∀ k, k < ms.length → wr.cell? ⟨b, off + k * 2, none⟩ = some (.string (atM ms k).1)) := Lib.hid (fun k hk => hr k hk 0 _ rfl)
          have HBL := Lib.hid hb
          have HS1 := Lib.hid (HSH.out i hil).2
          have HD : Hid ((match textF ms i with | some (p, e) => ((i : Int), p, e) | none => textsF ms (ms.length - (i + 1)) (i + 1)) = T) := Lib.hid (by
            have := HJ.out
            rw [show ms.length - i = (ms.length - (i + 1)) + 1 by omega] at this
            exact this)
          obtain ⟨m, hm⟩ : ∃ m, atM ms i = m := ⟨_, rfl⟩
          have HMI := Lib.hid hm
          rw [hm] at c1 HS1
          clear hr h3 hb hm
          go_wp2_with fail
          refine (refWords m.2 HS1.out wr).mono ?_
          rintro e w2 ⟨v, l, p, q, hwd, rfl, hwds, hb2⟩
          have HWD := Lib.hid hwd
          have HB2 := Lib.hid (HB.out.trans (hb2.mono HB.out.size))
          have HWS := Lib.hid hwds
          obtain ⟨AW, capW, rfl⟩ := hwds.len
          have HIN := Lib.hid (wds_in HWS.out (g := w2.heap.size) (fun b hb => (World.ownsRow.lt HWS.out b hb).2))
          have HC2 : Hid (∀ k, k < ms.length → w2.cell? ⟨b, off + k * 2, none⟩ = some (.string (atM ms k).1)) := Lib.hid (fun k hk => by rw [World.cell?_of_block (w := wr) (hb2.block b HBL.out)]; exact HCK.out k hk)
          clear hwd hwds hb2 c1
          by_cases hq : q = 0
          · subst hq
            have HTX : Hid (textF ms i = match wordF ms l with | some p => some ((p : Int), 5) | none => none) := Lib.hid (by
              unfold textF
              rw [HMI.out, HWD.out, if_neg (by simp)]
              show (match wordF ms l with | some p => some ((p : Int), (5 : Int)) | none => none) = _
              cases wordF ms l <;> rfl)
            have HL20 : Hid (l.length ≤ 20000) := Lib.hid (by have := (words_at m.2).1; rw [HWD.out] at this; exact Nat.le_trans this HS1.out)
            have hl20 : (l.length : Int) ≤ 20000 := by have := HL20.out; omega
            obtain ⟨WF, hWF⟩ : ∃ WF, wordF ms l = WF := ⟨_, rfl⟩
            have HWF := Lib.hid hWF
            rw [hWF] at HTX
            clear hWF
            go_wp2_with fail
            go_loopw [71] (fun k' wr => ∃ k : Nat, k ≤ l.length ∧ k' = .int .i64 k ∧ Hid (wordF ms (l.drop k) = WF) ∧ Hid (∃ nq, wr = w2.drewN nq)) (fun k' _ => l.length - (intOf k').toNat)
            case atStart => exact ⟨0, Nat.zero_le _, rfl, HWF, Lib.hid ⟨0, rfl⟩⟩
            case round =>
              obtain ⟨t, ht, rfl, HJW, HE2⟩ := hrel
              obtain ⟨nq, rfl⟩ := HE2.out
              by_cases htl : t < l.length
              · have htz : (0 : Int) ≤ (t : Int) := by omega
                have htn : (t : Int) < (l.length : Int) := by omega
                obtain ⟨AW', capW', e1, _, h3⟩ := HIN.out
                injection e1 with e1 _ e3
                subst e1
                subst e3
                obtain ⟨bw, ow, rfl, hbw, hrw⟩ := h3 (by omega)
                have hrk := hrw t htl
                have HWD2 : Hid (wordF ms (l[t] :: l.drop (t + 1)) = WF) := Lib.hid (by rw [← drop_cons l t htl]; exact HJW.out)
                generalize l[t] = x at hrk HWD2
                have qk : w2.cell? ⟨bw, ow + t * 9, none⟩ = some (.int .i64 x.1.kind) := hrk 0 _ rfl
                have qp : w2.cell? ⟨bw, ow + t * 9 + 1, none⟩ = some (.int .i64 x.2) := hrk 1 _ rfl
                have qn : w2.cell? ⟨bw, ow + t * 9 + 6, none⟩ = some (.string x.1.name) := hrk 6 _ rfl
                have QN := Lib.hid qn
                have QP := Lib.hid qp
                have HT0 : Hid ((x.1.kind != 11) = ThereTo ms x 0) := Lib.hid (by
                  rw [ThereTo.zero]
                  by_cases h : x.1.kind = 11
                  · rw [(int_eq h).2]; simp [h]
                  · rw [(int_ne h).2]; simp [h])
                clear hrk hrw h3 hbw qp qn
                go_wp2_with fail
                rw [HT0.out]
                clear qk
                go_loopw [12, 82] (fun th k' wr' => ∃ k : Nat, k ≤ ms.length ∧ k' = .int .i64 k ∧ th = .bool (ThereTo ms x k) ∧ Hid (∃ nq, wr' = w2.drewN nq)) (fun _ k' _ => ms.length - (intOf k').toNat)
                case atStart => exact ⟨0, Nat.zero_le _, rfl, rfl, Lib.hid ⟨nq, rfl⟩⟩
                case round =>
                  obtain ⟨k, hk, rfl, rfl, HE3⟩ := hrel
                  obtain ⟨nq2, rfl⟩ := HE3.out
                  by_cases hkl : k < ms.length
                  · have hkz : (0 : Int) ≤ (k : Int) := by omega
                    have hkn : (k : Int) < (ms.length : Int) := by omega
                    have HTS := Lib.hid (ThereTo.succ ms x k)
                    cases hth : ThereTo ms x k with
                    | true =>
                      have HT1 : Hid (ThereTo ms x (k + 1) = true) := Lib.hid (by rw [HTS.out, hth]; rfl)
                      clear hth
                      go_wp2_with fail
                      go_quiet (fail)
                      go_wp2_with fail
                      exact ⟨⟨k + 1, by omega, by go_num, by rw [HT1.out], Lib.hid ⟨_, rfl⟩⟩, by simp [intOf]; omega⟩
                    | false =>
                      have ck := HC2.out k hkl
                      have qn := QN.out
                      have HTd : Hid (ThereTo ms x (k + 1) = ((atM ms k).1.toList == x.1.name.toList)) := Lib.hid (by
                        rw [HTS.out, hth, Bool.false_or]
                        by_cases h : (atM ms k).1 = x.1.name
                        · rw [str_eq h, decide_eq_true h]
                        · rw [str_ne h, decide_eq_false h])
                      clear hth
                      generalize atM ms k = m2 at ck HTd
                      go_wp2_with fail
                      go_quiet (fail)
                      go_wp2_with fail
                      exact ⟨⟨k + 1, by omega, by go_num, by rw [HTd.out], Lib.hid ⟨_, rfl⟩⟩, by simp [intOf]; omega⟩
                  · obtain rfl : k = ms.length := by omega
                    have HTA := Lib.hid (ThereTo.all ms x)
                    cases hth : ThereTo ms x ms.length with
                    | true =>
                      have HWE : Hid (wordF ms (l.drop (t + 1)) = WF) := Lib.hid (by rw [← HWD2.out]; symm; show (if x.1.kind = 11 ∧ findM ms x.1.name 0 < 0 then _ else _) = _; rw [if_neg (HTA.out.1 hth)])
                      clear hth
                      go_wp2_with fail
                      exact ⟨⟨t + 1, by omega, by go_num, HWE, Lib.hid ⟨_, rfl⟩⟩, by simp [intOf]; omega⟩
                    | false =>
                      have HX : Hid (E = ((i : Int), (x.2 : Int), 5)) := Lib.hid (by
                        have hbad : x.1.kind = 11 ∧ findM ms x.1.name 0 < 0 := Classical.byContradiction (fun q => by have := HTA.out.2 q; rw [hth] at this; cases this)
                        have hwf : WF = some x.2 := by rw [← HWD2.out]; show (if x.1.kind = 11 ∧ findM ms x.1.name 0 < 0 then some x.2 else _) = _; rw [if_pos hbad]
                        have h := HD.out
                        rw [HTX.out, hwf] at h
                        rw [HTE.out (by rw [← h]; show ¬ (5 : Int) = 0; decide), ← h])
                      have qp := QP.out
                      clear hth
                      go_wp2_with fail
                      go_quiet (fail)
                      go_wp2_with fail
                      exact bodyPost_ret (v := .tuple #[.int .i64 i, .int .i64 x.2, .int .i64 5]) (by simp [results, Tryz.results7, go_sem]) rfl ⟨by rw [HX.out], by first | exact below_drewN HB2.out _ | exact below_drewN (below_drewN HB2.out _) _⟩
              · obtain rfl : t = l.length := by omega
                have HWN : Hid (textsF ms (ms.length - (i + 1)) (i + 1) = T) := Lib.hid (by
                  have h1 := HJW.out
                  rw [List.drop_length] at h1
                  have h2 : WF = none := h1.symm
                  have h3 := HTX.out
                  rw [h2] at h3
                  have h4 := HD.out
                  rw [h3] at h4
                  exact h4)
                go_wp2_with fail
                exact ⟨⟨i + 1, by omega, by go_num, HWN, Lib.hid (below_drewN HB2.out _)⟩, by simp [intOf]; omega⟩
          · have hqb := (int_ne hq).2
            have HX : Hid (E = ((i : Int), p, q)) := Lib.hid (by
              have htx : textF ms i = some (p, q) := by
                unfold textF
                rw [HMI.out, HWD.out, if_pos hq]
              have h := HD.out
              rw [htx] at h
              rw [HTE.out (by rw [← h]; exact hq), ← h])
            clear hq
            go_wp2_with fail
            exact bodyPost_ret (v := .tuple #[.int .i64 i, .int .i64 p, .int .i64 q]) (by simp [results, Tryz.results7, go_sem]) rfl ⟨by rw [HX.out], HB2.out⟩
        · obtain rfl : i = ms.length := by omega
          have HT0 : Hid ((textsF ms ms.length 0).2.2 = 0) := Lib.hid (by rw [HT.out, ← HJ.out, Nat.sub_self]; rfl)
          have HEC := Lib.hid (early_cyc H20.out HN0.out HT0.out)
          have hlen20 : ms.length ≤ 20 := by have := H20.out; omega
          obtain ⟨C, hC⟩ : ∃ C, clos (mat0 ms) 20 = C := ⟨_, rfl⟩
          have HC := Lib.hid hC
          rw [hC] at HEC
          obtain ⟨R, hR⟩ : ∃ R, cycF C ms.length 0 = R := ⟨_, rfl⟩
          have HR := Lib.hid hR
          have HER : Hid (E = cycT R) := Lib.hid (by rw [← HE.out, HEC.out, hR])
          clear hC hR HT HTE HJ hi hil
          go_wp2_with fail
          go_loopw [112] (fun i wr => ∃ (j : Nat), j ≤ ms.length ∧ i = .int .i64 j ∧ Hid (cycF C (ms.length - j) j = R) ∧ Hid (Below w.heap.size w wr)) (fun i _ => ms.length - (intOf i).toNat)
          case atStart => exact ⟨0, Nat.zero_le _, rfl, HR, HB⟩
          case round =>
            clear HB
            obtain ⟨j, hj, rfl, HJ, HB⟩ := hrel
            by_cases hjl : j < ms.length
            · have hjz : (0 : Int) ≤ (j : Int) := by omega
              have hjn : (j : Int) < (ms.length : Int) := by omega
              have HJ2 : Hid ((if C j j = true then some j else cycF C (ms.length - (j + 1)) (j + 1)) = R) := Lib.hid (by
                have := HJ.out
                rw [show ms.length - j = (ms.length - (j + 1)) + 1 by omega] at this
                exact this)
              go_wp2_with fail
              refine (lawCyclic ms hlen20 j hjl A ms.length c wr (HM.out.next HB.out) HSH.out).mono ?_
              rintro e w2 ⟨rfl, hb2⟩
              rw [HC.out]
              have HB2 := Lib.hid (HB.out.trans (hb2.mono HB.out.size))
              clear hb2
              cases hc : C j j with
              | true =>
                have HX : Hid (E = ((j : Int), 0, 7)) := Lib.hid (by rw [HER.out, ← HJ2.out, if_pos hc]; rfl)
                clear hc
                go_wp2_with fail
                exact bodyPost_ret (v := .tuple #[.int .i64 j, .int .i64 0, .int .i64 7]) (by simp [results, Tryz.results7, go_sem]) rfl ⟨by rw [HX.out], HB2.out⟩
              | false =>
                have HJ3 : Hid (cycF C (ms.length - (j + 1)) (j + 1) = R) := Lib.hid (by rw [← HJ2.out, if_neg (by rw [hc]; decide)])
                clear hc
                go_wp2_with fail
                exact ⟨⟨j + 1, by omega, by go_num, HJ3, HB2⟩, by simp [intOf]; omega⟩
            · obtain rfl : j = ms.length := by omega
              have HX : Hid (E = (0, 0, 0)) := Lib.hid (by rw [HER.out, ← HJ.out, Nat.sub_self]; rfl)
              go_wp2_with fail
              exact bodyPost_ret (v := .tuple #[.int .i64 0, .int .i64 0, .int .i64 0]) (by simp [results, Tryz.results7, go_sem]) rfl ⟨by rw [HX.out], HB.out⟩

end Go.Proofs.YtkbfoelffeocmaaGreat
