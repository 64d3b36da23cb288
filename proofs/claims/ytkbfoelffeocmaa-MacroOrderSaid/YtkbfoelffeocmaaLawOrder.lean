/- bolterlaw07.MacroOrder: the law's walk. -/
import Derived.Test.YtkbfoelffeocmaaOrdMath
namespace Go.Proofs.Ytkbfoelffeocmaa
open Go.RowKit
set_option linter.unusedSimpArgs false
set_option linter.unusedVariables false

set_option maxRecDepth 100000 in
set_option maxHeartbeats 8000000 in
theorem lawOrder (ms : List (ByteArray × ByteArray)) (A : Option Addr) (n c : Nat) (t : Nat) (ht : t < 256) (w : World) (hm : MacsAt w (.slice A n c) ms) (hf : FitM ms) (hc : n ≤ c) (hcc : c ≤ 9223372036854775807) :
    Calls Try.prog 3 #[.slice A n c, .int .u8 t] w fun e w' => e = .returned (.bool true) ∧ Below w.heap.size w w' := by
  obtain rfl := hm.len
  have hln := hf.1
  have HM := Lib.hid hm
  have HF := Lib.hid hf
  clear hm hf
  go_enter Try.func3, Try.ntmps3
  go_wp2_with fail
  refine (lawAwake w).mono ?_
  rintro e w1 ⟨rfl, hb1⟩
  have HB1 := Lib.hid hb1
  clear hb1
  go_wp2_with fail
  refine (lawFew ms A ms.length c w1 (HM.out.next HB1.out) HF.out).mono ?_
  rintro e w1' ⟨bf, rfl, hfew, rfl⟩
  cases bf with
  | false =>
    go_wp2_with fail
    refine (lawAwake w1').mono ?_
    rintro e w2 ⟨rfl, hb2⟩
    have HB2 := Lib.hid (HB1.out.trans (hb2.mono HB1.out.size))
    clear hb2
    go_wp2_with fail
    go_ret
    exact ⟨rfl, HB2.out⟩
  | true =>
    have HSS := Lib.hid (few_short (hfew rfl))
    clear hfew
    by_cases h0 : ms.length = 0
    · have h0z : (ms.length : Int) = 0 := by omega
      have h0b := (int_eq h0z).1
      go_wp2_with fail
      refine (lawAwake w1').mono ?_
      rintro e w2 ⟨rfl, hb2⟩
      have HB2 := Lib.hid (HB1.out.trans (hb2.mono HB1.out.size))
      clear hb2
      go_wp2_with fail
      go_ret
      exact ⟨rfl, HB2.out⟩
    · have h0z : ¬ (ms.length : Int) = 0 := by omega
      have h0b := (int_ne h0z).1
      obtain ⟨k, hkk⟩ : ∃ k, t % ms.length = k := ⟨_, rfl⟩
      have hk : k < ms.length := by rw [← hkk]; exact Nat.mod_lt _ (by omega)
      have hrem : ((t : Int)).tmod (ms.length : Int) = (k : Int) := by rw [← hkk]; exact (Int.ofNat_tmod t ms.length).symm
      have hkz : (0 : Int) ≤ (k : Int) := by omega
      have hkn : (k : Int) ≤ (ms.length : Int) := by omega
      have hkn2 : (k : Int) < (ms.length : Int) := by omega
      have hkc : (k : Int) ≤ (c : Int) := by omega
      have hcz : (ms.length : Int) ≤ (c : Int) := by omega
      have hck : ¬ c = k := by omega
      have hck2 : ¬ k = c := by omega
      obtain ⟨A', cap, e1, _, h3⟩ := id HM.out
      injection e1 with e1 _ e3
      subst e1
      subst e3
      obtain ⟨b, off, rfl, hb, _⟩ := h3 (by omega)
      have HBW := Lib.hid hb
      clear hkk h3 hb h0 h0z
      go_wp2_with fail
      refine (mExpand ms (some ⟨b, off, none⟩) ms.length c w1' (HM.out.next HB1.out) hc HSS.out.2.1 HSS.out.2.2).mono ?_
      rintro e w2 hpp
      obtain ⟨hb2, va, ia, pa, qa, rfl, hoa⟩ := hpp.out
      have HB2 := Lib.hid (HB1.out.trans (hb2.mono HB1.out.size))
      have HOA := Lib.hid hoa
      have HM2 := Lib.hid (HM.out.next HB2.out)
      have HSR := Lib.hid (rot_short k HSS.out.2.1 HSS.out.2.2)
      have HRL : Hid (0 < (rotM ms k).length ∧ (rotM ms k).length ≤ 30) := Lib.hid (by rw [rot_length]; have := HSS.out.1; omega)
      have HNN : Hid (ms.length - k ≤ 30 ∧ 0 < ms.length - k ∧ k ≤ c ∧ k ≤ 30 ∧ (ms.drop k).length ≤ 30 ∧ 0 < (ms.drop k).length) := Lib.hid (by have := HSS.out.1; rw [List.length_drop]; omega)
      clear hb2 hoa hpp
      go_wp2_with fail
      refine wp_region_noPanic ?_
      refine wp_region_held_drew (S := (fun w' => True)) (by kernel_rfl) (by trivial) (fun hHeld => ?_)
      have hB : Below w2.heap.size w2 w2.drew := (Below.refl _ _).drew
      refine wpAnyH_take (i := 1) (oi := ⟨some 43, _, _, _, _, _⟩) (v := ?_) rfl (by kernel_rfl) (by kernel_rfl) (by kernel_rfl) (fun _ _ _ h => h) (Or.inl ⟨by rfl, ?_⟩) (by exact hHeld) ?_
      rotate_left
      · (intro w hSw; (try dsimp only at hSw); go_simp; try (with_reducible rfl))
      simp only [Act.put, List.setIfInBounds_toArray, List.set_cons_zero, List.set_cons_succ]
      refine wpAnyH_take (i := 2) (oi := ⟨some 44, _, _, _, _, _⟩) (v := ?_) rfl (by kernel_rfl) (by kernel_rfl) (by kernel_rfl) (fun _ _ _ h => h) (Or.inl ⟨by rfl, ?_⟩) (by exact hHeld) ?_
      rotate_left
      · (intro w hSw; (try dsimp only at hSw); go_simp; try (with_reducible rfl))
      simp only [Act.put, List.setIfInBounds_toArray, List.set_cons_zero, List.set_cons_succ]
      refine wpAnyH_take (i := 3) (oi := ⟨some 45, _, _, _, _, _⟩) (v := ?_) rfl (by kernel_rfl) (by kernel_rfl) (by kernel_rfl) (fun _ _ _ h => h) (Or.inl ⟨by rfl, ?_⟩) (by exact hHeld) ?_
      rotate_left
      · (intro w hSw; (try dsimp only at hSw); go_simp; try (with_reducible rfl))
      simp only [Act.put, List.setIfInBounds_toArray, List.set_cons_zero, List.set_cons_succ]
      refine wpAnyH_take (i := 5) (oi := ⟨some 47, _, _, _, _, _⟩) (v := ?_) rfl (by kernel_rfl) (by kernel_rfl) (by kernel_rfl) (fun _ _ _ h => h) (Or.inl ⟨by rfl, ?_⟩) (by exact hHeld) ?_
      rotate_left
      · (intro w hSw; (try dsimp only at hSw); go_simp; try (with_reducible rfl))
      simp only [Act.put, List.setIfInBounds_toArray, List.set_cons_zero, List.set_cons_succ]
      refine wpAnyH_take (i := 6) (oi := ⟨some 48, _, _, _, _, _⟩) (v := ?_) rfl (by kernel_rfl) (by kernel_rfl) (by kernel_rfl) (fun _ _ _ h => h) (Or.inl ⟨by rfl, ?_⟩) (by exact hHeld) ?_
      rotate_left
      · (intro w hSw; (try dsimp only at hSw); go_simp; try (with_reducible rfl))
      simp only [Act.put, List.setIfInBounds_toArray, List.set_cons_zero, List.set_cons_succ]
      refine wpAnyH_take (i := 7) (oi := ⟨some 49, _, _, _, _, _⟩) (v := ?_) rfl (by kernel_rfl) (by kernel_rfl) (by kernel_rfl) (fun _ _ _ h => h) (Or.inl ⟨by rfl, ?_⟩) (by exact hHeld) ?_
      rotate_left
      · (intro w hSw; (try dsimp only at hSw); go_simp; try (with_reducible rfl))
      simp only [Act.put, List.setIfInBounds_toArray, List.set_cons_zero, List.set_cons_succ]
      refine wpAnyH_ready (rs := [0]) (by kernel_rfl) (by simp) ?_
      refine AllReadyH.cons (o := ⟨some 42, _, _, _, _, _⟩) rfl (fun K hK => ?_) AllReadyH.nil
      refine step_slice0m rfl rfl (fun g4 w3 h4 hb3 hg4 => ?_)
      have hg4b : w2.heap.size ≤ g4 := Nat.le_trans hB.size hg4
      have hB := hB.trans (hb3.mono hB.size)
      clear hb3 hg4
      try dsimp only
      refine hK.out _ _ ?_ (fun hHeld => ?_)
      · trivial
      clear hK K
      try simp only [Act.put, List.setIfInBounds_toArray, List.set_cons_zero, List.set_cons_succ]
      refine wpAnyH_ready (rs := [4]) (by kernel_rfl) (by simp) ?_
      refine AllReadyH.cons (o := ⟨some 46, _, _, _, _, _⟩) rfl (fun K hK => ?_) AllReadyH.nil
      refine step_append_any2 rfl _ _ 22 rfl _ _ rfl rfl (append_macs _ w2.heap.size g4 _ (ms.length - k) (c - k) (ms.drop k) _ h4 hg4b hB.size (MacsAt.drop (HM2.out.next hB) k (c - k) hk) HNN.out.1 HNN.out.2.1) ?_
      rintro v6 w3 ⟨h6, hgr⟩
      have hB := below_grown' hB hB.size hgr (fun q hq => by injection hq with hq; omega)
      clear h4 hgr hg4b
      refine hK.out _ _ ?_ (fun hHeld => ?_)
      · trivial
      clear hK K
      try simp only [Act.put, List.setIfInBounds_toArray, List.set_cons_zero, List.set_cons_succ]
      refine wpAnyH_ready (rs := [8]) (by kernel_rfl) (by simp) ?_
      refine AllReadyH.cons (o := ⟨some 50, _, _, _, _, _⟩) rfl (fun K hK => ?_) AllReadyH.nil
      refine step_append_any2 rfl _ _ 22 rfl _ _ rfl rfl (append_more _ w2.heap.size v6 (ms.drop k) (ms.take k) _ k c _ h6 hB.size ((HM2.out.next hB).take k c (by omega) HNN.out.2.2.1) HNN.out.2.2.2.1 HNN.out.2.2.2.2.1 HNN.out.2.2.2.2.2) ?_
      rintro v9 w3 ⟨h9, hgr⟩
      have hrow : ∀ q, v6.ownBlock = some q → w2.heap.size ≤ q := fun q hq => (World.ownsRow.lt h6 q hq).1
      have hB := below_grown' hB hB.size hgr hrow
      clear h6 hgr hrow
      obtain ⟨g9, cap9, rfl, hI9, hnc⟩ := MacRow.out (l := rotM ms k) h9 HRL.out.1 HRL.out.2
      clear h9
      refine hK.out _ _ ?_ (fun hHeld => ?_)
      · trivial
      clear hK K
      try simp only [Act.put, List.setIfInBounds_toArray, List.set_cons_zero, List.set_cons_succ]
      refine wpAnyH_ready (rs := [9]) (by kernel_rfl) (by simp) ?_
      refine AllReadyH.cons (o := ⟨some 51, _, _, _, _, _⟩) rfl (fun K hK => ?_) AllReadyH.nil
      go_simp
      ((with_reducible refine (mExpand (rotM ms k) _ _ _ _ hI9 hnc HSR.out.1 HSR.out.2).mono ?_))
      rintro e w6 hpp
      obtain ⟨hb6, v, i6, p6, q6, rfl, ho6⟩ := hpp.out
      have hB := hB.trans (hb6.mono hB.size)
      have HO6 := Lib.hid ho6
      clear hb6 hpp hI9 hnc ho6
      refine hK.out _ _ ?_ (fun hHeld => ?_)
      · trivial
      clear hK K
      try simp only [Act.put, List.setIfInBounds_toArray, List.set_cons_zero, List.set_cons_succ]
      refine wpAnyH_take (i := 10) (oi := ⟨some 41, _, _, _, _, _⟩) (v := ?_) rfl (by kernel_rfl) (by kernel_rfl) (by kernel_rfl) (fun _ _ _ h => h) (Or.inl ⟨by rfl, ?_⟩) (by exact hHeld) ?_
      rotate_left
      · (intro w hSw; (try dsimp only at hSw); go_simp; try (with_reducible rfl))
      simp only [Act.put, List.setIfInBounds_toArray, List.set_cons_zero, List.set_cons_succ]
      refine wpAnyH_take (i := 11) (oi := ⟨some 52, _, _, _, _, _⟩) (v := ?_) rfl (by kernel_rfl) (by kernel_rfl) (by kernel_rfl) (fun _ _ _ h => h) (Or.inl ⟨by rfl, ?_⟩) (by exact hHeld) ?_
      rotate_left
      · (intro w hSw; (try dsimp only at hSw); go_simp; try (with_reducible rfl))
      simp only [Act.put, List.setIfInBounds_toArray, List.set_cons_zero, List.set_cons_succ]
      refine wpAnyH_take (i := 12) (oi := ⟨some 53, _, _, _, _, _⟩) (v := ?_) rfl (by kernel_rfl) (by kernel_rfl) (by kernel_rfl) (fun _ _ _ h => h) (Or.inl ⟨by rfl, ?_⟩) (by exact hHeld) ?_
      rotate_left
      · (intro w hSw; (try dsimp only at hSw); go_simp; try (with_reducible rfl))
      simp only [Act.put, List.setIfInBounds_toArray, List.set_cons_zero, List.set_cons_succ]
      refine wpAnyH_take (i := 13) (oi := ⟨some 54, _, _, _, _, _⟩) (v := ?_) rfl (by kernel_rfl) (by kernel_rfl) (by kernel_rfl) (fun _ _ _ h => h) (Or.inl ⟨by rfl, ?_⟩) (by exact hHeld) ?_
      rotate_left
      · (intro w hSw; (try dsimp only at hSw); go_simp; try (with_reducible rfl))
      simp only [Act.put, List.setIfInBounds_toArray, List.set_cons_zero, List.set_cons_succ]
      refine wpAnyH_take (i := 14) (oi := ⟨some 55, _, _, _, _, _⟩) (v := ?_) rfl (by kernel_rfl) (by kernel_rfl) (by kernel_rfl) (fun _ _ _ h => h) (Or.inl ⟨by rfl, ?_⟩) (by exact hHeld) ?_
      rotate_left
      · (intro w hSw; (try dsimp only at hSw); go_simp; try (with_reducible rfl))
      simp only [Act.put, List.setIfInBounds_toArray, List.set_cons_zero, List.set_cons_succ]
      refine wpAnyH_take (i := 15) (oi := ⟨some 10, _, _, _, _, _⟩) (v := ?_) rfl (by kernel_rfl) (by kernel_rfl) (by kernel_rfl) (fun _ _ _ h => h) (Or.inl ⟨by rfl, ?_⟩) (by exact hHeld) ?_
      rotate_left
      · (intro w hSw; (try dsimp only at hSw); go_simp; try (with_reducible rfl))
      simp only [Act.put, List.setIfInBounds_toArray, List.set_cons_zero, List.set_cons_succ]
      refine wpAnyH_take (i := 16) (oi := ⟨some 11, _, _, _, _, _⟩) (v := ?_) rfl (by kernel_rfl) (by kernel_rfl) (by kernel_rfl) (fun _ _ _ h => h) (Or.inl ⟨by rfl, ?_⟩) (by exact hHeld) ?_
      rotate_left
      · (intro w hSw; (try dsimp only at hSw); go_simp; try (with_reducible rfl))
      simp only [Act.put, List.setIfInBounds_toArray, List.set_cons_zero, List.set_cons_succ]
      refine wpAnyH_take (i := 17) (oi := ⟨some 12, _, _, _, _, _⟩) (v := ?_) rfl (by kernel_rfl) (by kernel_rfl) (by kernel_rfl) (fun _ _ _ h => h) (Or.inl ⟨by rfl, ?_⟩) (by exact hHeld) ?_
      rotate_left
      · (intro w hSw; (try dsimp only at hSw); go_simp; try (with_reducible rfl))
      simp only [Act.put, List.setIfInBounds_toArray, List.set_cons_zero, List.set_cons_succ]
      refine wpAnyH_take (i := 18) (oi := ⟨some 13, _, _, _, _, _⟩) (v := ?_) rfl (by kernel_rfl) (by kernel_rfl) (by kernel_rfl) (fun _ _ _ h => h) (Or.inl ⟨by rfl, ?_⟩) (by exact hHeld) ?_
      rotate_left
      · (intro w hSw; (try dsimp only at hSw); go_simp; try (with_reducible rfl))
      simp only [Act.put, List.setIfInBounds_toArray, List.set_cons_zero, List.set_cons_succ]
      refine wpAnyH_done (by kernel_rfl) ?_ _
      refine NoPanic.normal ?_
      skip
      rcases HOA.out with ⟨rfl, F, hgd, hsol, _, hda⟩ | ⟨hqa, hnoa⟩
      · rcases HO6.out with ⟨rfl, F2, _, _, huq2, hdb⟩ | ⟨hqb, hnob⟩
        · have hda2 := hda.next hB
          obtain ⟨ga, Ba, tsa, rfl, _, hga, hdra, htsa⟩ := hda2
          obtain ⟨gb, Bb, tsb, rfl, _, hgb, hdrb, htsb⟩ := hdb
          have hrl := rot_length ms k
          rw [hrl] at hdrb htsb ⊢
          have HGA := Lib.hid hga
          have HGB := Lib.hid hgb
          have HDA := Lib.hid hdra
          have HDB := Lib.hid hdrb
          have HTA := Lib.hid htsa
          have HTB := Lib.hid htsb
          have HSol := Lib.hid hsol
          have HFF : Hid (∀ m, m ∈ ms → F2 m.1 = F m.1) := Lib.hid (fun m hm => huq2 F (hsol.perm hgd (rot_mem ms k)) m ((rot_mem ms k m).1 hm))
          have HB6 := Lib.hid (HB2.out.trans (hB.mono HB2.out.size))
          have h20 := hgd.few
          clear hda hga hgb hdra hdrb htsa htsb hsol hgd huq2 hrl HOA HO6 hB hHeld
          go_wp2_with fail
          go_loopw [70] (fun i' wr => ∃ (i : Nat), i ≤ ms.length ∧ i' = .int .i64 i ∧ Hid (Below w6.heap.size w6 wr)) (fun i' _ => ms.length - (intOf i').toNat)
          case atStart => exact ⟨0, Nat.zero_le _, rfl, Lib.hid (Below.refl _ _)⟩
          case round =>
            obtain ⟨i, hi, rfl, HB⟩ := hrel
            by_cases hil : i < ms.length
            · have hiz : (0 : Int) ≤ (i : Int) := by omega
              have hin : (i : Int) < (ms.length : Int) := by omega
              obtain ⟨j, hj⟩ : ∃ j, (i + ms.length - k) % ms.length = j := ⟨_, rfl⟩
              have hjl : j < ms.length := by rw [← hj]; exact Nat.mod_lt _ (by omega)
              have hjm : ((i : Int) + (ms.length : Int) - (k : Int)).tmod (ms.length : Int) = (j : Int) := by
                rw [show (i : Int) + (ms.length : Int) - (k : Int) = ((i + ms.length - k : Nat) : Int) by omega, ← hj]
                exact (Int.ofNat_tmod _ _).symm
              have hjz : (0 : Int) ≤ (j : Int) := by omega
              have hjn : (j : Int) < (ms.length : Int) := by omega
              have hat : atM (rotM ms k) j = atM ms i := by rw [← hj]; exact rot_at hk hil
              have hda := HDA.out.next HGA.out HB.out
              have hdb := HDB.out.next HGB.out HB.out
              have hmi := atM_mem hil
              have hb1 := hdb.whole hjl
              have hb2 := (hdb.ins j hjl).1
              have hb3 := HTB.out j hjl
              rw [hat] at hb1 hb3
              rw [HFF.out _ hmi] at hb3
              have ha1 : wr.cell? ⟨ga, i * 10, none⟩ = some (.string (atM ms i).1) := hda.names i hil 0 _ rfl
              have ha2 := hda.trees i hil
              have ha3 := (hda.ins i hil).1
              have ha4 := HTA.out i hil
              have hdp := sol_deep HSol.out hmi hb3
              have hgaw : ga < wr.heap.size := Nat.lt_of_lt_of_le HGA.out HB.out.size
              obtain ⟨nm, hnm⟩ : ∃ nm, (atM ms i).1 = nm := ⟨_, rfl⟩
              obtain ⟨ta, hta⟩ : ∃ ta, tsa i = ta := ⟨_, rfl⟩
              obtain ⟨tb, htb⟩ : ∃ tb, tsb j = tb := ⟨_, rfl⟩
              rw [hnm] at hb1 hb3 ha1 ha4
              rw [hta] at ha2 ha3 ha4
              rw [htb] at hb1 hb2 hb3 hdp
              have hbx := boxD_next wr nm tb
              have HX5 := Lib.hid (boxD_at wr nm tb)
              have HXR := Lib.hid (boxD_range wr nm tb)
              have HB5 := Lib.hid (HB.out.trans (hbx.mono HB.out.size))
              have HTB2 : Hid (Tr.In (boxD wr nm tb) 40 tb) := Lib.hid (hb2.1.next hbx)
              have HTA2 : Hid (Tr.In (boxD wr nm tb) 40 ta) := Lib.hid (ha3.1.next hbx)
              have HSE : Hid (sameS 40 41 tb ta = true) := Lib.hid (same_of HTB2.out (hb3.trans ha4.symm) hdp)
              have HRB := Lib.hid hb1
              have honeD := defCs_one nm tb
              have HALL : Hid (∀ w', Below (boxD wr nm tb).heap.size (boxD wr nm tb) w' → w'.cell? ⟨wr.heap.size, 0, none⟩ = some (.string nm) ∧ w'.cell? ⟨ga, i * 10, none⟩ = some (.string nm) ∧ w'.rangeAt wr.heap.size 1 tb.cs ∧ w'.rangeAt ga (i * 10 + 1) ta.cs) := Lib.hid (fun w' hb' => by
                have hbw := hbx.trans (hb'.mono hbx.size)
                refine ⟨(At.below HX5.out hb' HX5.out.lt).cell 0, by rw [World.cell?_of_block (w := wr) (hbw.block ga hgaw)]; exact ha1, range_below HXR.out HX5.out.lt (Nat.le_refl _) hb', range_below ha2 hgaw (Nat.le_refl _) hbw⟩)
              clear hj hat hda hdb hmi hb1 hb2 hb3 ha1 ha2 ha3 ha4 hdp hgaw hnm hta htb hbx
              go_wp2_with (first
                | (with_reducible show wpList _ _ _ ({ dst := some 84, op := .load _ _, type := _, pos := _, after := _, guard := _ } :: _) _ _
                   refine wpList_load_mid rfl 36 _ rfl gb (j * 10) rfl (defCs nm tb) _ HRB.out Try.underlying36 rfl (by rw [defCs_length]; kernel_rfl) ?_)
                | (with_reducible show wpList _ _ _ ({ dst := none, op := .store _ _ _, type := _, pos := _, after := _, guard := _ } :: _) _ _
                   refine wpList_store_row rfl 36 _ _ rfl wr.heap.size (defCs nm tb).toArray rfl rfl 36 #[.string { data := #[] }, .int .i64 0, .int .u64 0, .int .u64 0, .int .u64 0, .int .u64 0, .slice none 0 0, .int .i64 0, .int .i64 0, .bool false] (At.new _ _ _) (by kernel_rfl) rfl honeD ?_
                   first | change wpList _ _ _ _ _ (boxD wr nm tb) | change Exit.then _ _ _ _ (boxD wr nm tb))
                | fail)
              have hBel : Below (boxD wr nm tb).heap.size (boxD wr nm tb) (boxD wr nm tb).drew := (Below.refl _ _).drew
              refine wp_region_noPanic ?_
              refine wp_region_held_drew (S := (fun w' => w'.cell? ⟨wr.heap.size, 0, none⟩ = some (.string nm) ∧ w'.cell? ⟨ga, i * 10, none⟩ = some (.string nm) ∧ w'.rangeAt wr.heap.size 1 tb.cs ∧ w'.rangeAt ga (i * 10 + 1) ta.cs)) (by kernel_rfl) (by exact HALL.out _ hBel) (fun hHeld => ?_)
              refine wpAnyH_take (i := 0) (oi := ⟨some 85, _, _, _, _, _⟩) (v := ?_) rfl (by kernel_rfl) (by kernel_rfl) (by kernel_rfl) (fun _ _ _ h => h) (Or.inl ⟨by rfl, ?_⟩) (by exact hHeld) ?_
              rotate_left
              · (intro w hSw; (try dsimp only at hSw); go_simp; try (with_reducible rfl))
              simp only [Act.put, List.setIfInBounds_toArray, List.set_cons_zero, List.set_cons_succ]
              refine wpAnyH_take (i := 1) (oi := ⟨some 86, _, _, _, _, _⟩) (v := ?_) rfl (by kernel_rfl) (by kernel_rfl) (by kernel_rfl) (fun _ _ _ h => h) (Or.inl ⟨by rfl, ?_⟩) (by exact hHeld) ?_
              rotate_left
              · (intro w hSw; (try dsimp only at hSw); obtain ⟨s1, s2, _, _⟩ := hSw; go_simp; try (with_reducible rfl))
              simp only [Act.put, List.setIfInBounds_toArray, List.set_cons_zero, List.set_cons_succ]
              refine wpAnyH_take (i := 2) (oi := ⟨some 87, _, _, _, _, _⟩) (v := ?_) rfl (by kernel_rfl) (by kernel_rfl) (by kernel_rfl) (fun _ _ _ h => h) (Or.inl ⟨by rfl, ?_⟩) (by exact hHeld) ?_
              rotate_left
              · (intro w hSw; (try dsimp only at hSw); go_simp; try (with_reducible rfl))
              simp only [Act.put, List.setIfInBounds_toArray, List.set_cons_zero, List.set_cons_succ]
              refine wpAnyH_take (i := 3) (oi := ⟨some 88, _, _, _, _, _⟩) (v := ?_) rfl (by kernel_rfl) (by kernel_rfl) (by kernel_rfl) (fun _ _ _ h => h) (Or.inl ⟨by rfl, ?_⟩) (by exact hHeld) ?_
              rotate_left
              · (intro w hSw; (try dsimp only at hSw); go_simp; try (with_reducible rfl))
              simp only [Act.put, List.setIfInBounds_toArray, List.set_cons_zero, List.set_cons_succ]
              refine wpAnyH_take (i := 4) (oi := ⟨some 89, _, _, _, _, _⟩) (v := ?_) rfl (by kernel_rfl) (by kernel_rfl) (by kernel_rfl) (fun _ _ _ h => h) (Or.inl ⟨by rfl, ?_⟩) (by exact hHeld) ?_
              rotate_left
              · (intro w hSw; (try dsimp only at hSw); go_simp; try (with_reducible rfl))
              simp only [Act.put, List.setIfInBounds_toArray, List.set_cons_zero, List.set_cons_succ]
              refine wpAnyH_take (i := 5) (oi := ⟨some 90, _, _, _, _, _⟩) (v := ?_) rfl (by kernel_rfl) (by kernel_rfl) (by kernel_rfl) (fun _ _ _ h => h) (Or.inl ⟨by rfl, ?_⟩) (by exact hHeld) ?_
              rotate_left
              · (intro w hSw; (try dsimp only at hSw); go_simp; try (with_reducible rfl))
              simp only [Act.put, List.setIfInBounds_toArray, List.set_cons_zero, List.set_cons_succ]
              refine wpAnyH_take (i := 6) (oi := ⟨some 91, _, _, _, _, _⟩) (v := ?_) rfl (by kernel_rfl) (by kernel_rfl) (by kernel_rfl) (fun _ _ _ h => h) (Or.inl ⟨by rfl, ?_⟩) (by exact hHeld) ?_
              rotate_left
              · (intro w hSw; (try dsimp only at hSw); obtain ⟨s1, s2, _, _⟩ := hSw; go_simp; try (with_reducible rfl))
              simp only [Act.put, List.setIfInBounds_toArray, List.set_cons_zero, List.set_cons_succ]
              refine wpAnyH_take (i := 7) (oi := ⟨some 92, _, _, _, _, _⟩) (v := ?_) rfl (by kernel_rfl) (by kernel_rfl) (by kernel_rfl) (fun _ _ _ h => h) (Or.inl ⟨by rfl, ?_⟩) (by exact hHeld) ?_
              rotate_left
              · (intro w hSw; (try dsimp only at hSw); go_simp; try (with_reducible rfl))
              simp only [Act.put, List.setIfInBounds_toArray, List.set_cons_zero, List.set_cons_succ]
              refine wpAnyH_take (i := 8) (oi := ⟨some 93, _, _, _, _, _⟩) (v := ?_) rfl (by kernel_rfl) (by kernel_rfl) (by kernel_rfl) (fun _ _ _ h => h) (Or.inl ⟨by rfl, ?_⟩) (by exact hHeld) ?_
              rotate_left
              · (intro w hSw; (try dsimp only at hSw); go_simp; try (with_reducible rfl))
              simp only [Act.put, List.setIfInBounds_toArray, List.set_cons_zero, List.set_cons_succ]
              refine wpAnyH_take (i := 9) (oi := ⟨some 94, _, _, _, _, _⟩) (v := ?_) rfl (by kernel_rfl) (by kernel_rfl) (by kernel_rfl) (fun _ _ _ h => h) (Or.inl ⟨by rfl, ?_⟩) (by exact hHeld) ?_
              rotate_left
              · (intro w hSw; (try dsimp only at hSw); go_simp; try (with_reducible rfl))
              simp only [Act.put, List.setIfInBounds_toArray, List.set_cons_zero, List.set_cons_succ]
              refine wpAnyH_take (i := 10) (oi := ⟨some 95, _, _, _, _, _⟩) (v := _) rfl (by kernel_rfl) (by kernel_rfl) (by kernel_rfl) (fun _ _ _ h => h) (yieldsIf_load_mid (by rfl) 34 _ rfl wr.heap.size 1 rfl tb.cs _ (fun _ h => h.2.2.1) Try.underlying34 rfl (by rw [Tr.cs_length]; kernel_rfl)) (by exact hHeld) ?_
              simp only [Act.put, List.setIfInBounds_toArray, List.set_cons_zero, List.set_cons_succ]
              refine wpAnyH_take (i := 11) (oi := ⟨some 96, _, _, _, _, _⟩) (v := ?_) rfl (by kernel_rfl) (by kernel_rfl) (by kernel_rfl) (fun _ _ _ h => h) (Or.inl ⟨by rfl, ?_⟩) (by exact hHeld) ?_
              rotate_left
              · (intro w hSw; (try dsimp only at hSw); go_simp; try (with_reducible rfl))
              simp only [Act.put, List.setIfInBounds_toArray, List.set_cons_zero, List.set_cons_succ]
              refine wpAnyH_take (i := 12) (oi := ⟨some 97, _, _, _, _, _⟩) (v := ?_) rfl (by kernel_rfl) (by kernel_rfl) (by kernel_rfl) (fun _ _ _ h => h) (Or.inl ⟨by rfl, ?_⟩) (by exact hHeld) ?_
              rotate_left
              · (intro w hSw; (try dsimp only at hSw); go_simp; try (with_reducible rfl))
              simp only [Act.put, List.setIfInBounds_toArray, List.set_cons_zero, List.set_cons_succ]
              refine wpAnyH_take (i := 13) (oi := ⟨some 98, _, _, _, _, _⟩) (v := ?_) rfl (by kernel_rfl) (by kernel_rfl) (by kernel_rfl) (fun _ _ _ h => h) (Or.inl ⟨by rfl, ?_⟩) (by exact hHeld) ?_
              rotate_left
              · (intro w hSw; (try dsimp only at hSw); go_simp; try (with_reducible rfl))
              simp only [Act.put, List.setIfInBounds_toArray, List.set_cons_zero, List.set_cons_succ]
              refine wpAnyH_take (i := 14) (oi := ⟨some 99, _, _, _, _, _⟩) (v := ?_) rfl (by kernel_rfl) (by kernel_rfl) (by kernel_rfl) (fun _ _ _ h => h) (Or.inl ⟨by rfl, ?_⟩) (by exact hHeld) ?_
              rotate_left
              · (intro w hSw; (try dsimp only at hSw); go_simp; try (with_reducible rfl))
              simp only [Act.put, List.setIfInBounds_toArray, List.set_cons_zero, List.set_cons_succ]
              refine wpAnyH_take (i := 15) (oi := ⟨some 100, _, _, _, _, _⟩) (v := _) rfl (by kernel_rfl) (by kernel_rfl) (by kernel_rfl) (fun _ _ _ h => h) (yieldsIf_load_mid (by rfl) 34 _ rfl ga (i * 10 + 1) rfl ta.cs _ (fun _ h => h.2.2.2) Try.underlying34 rfl (by rw [Tr.cs_length]; kernel_rfl)) (by exact hHeld) ?_
              simp only [Act.put, List.setIfInBounds_toArray, List.set_cons_zero, List.set_cons_succ]
              refine wpAnyH_ready (rs := [16]) (by kernel_rfl) (by simp) ?_
              refine AllReadyH.cons (o := ⟨some 101, _, _, _, _, _⟩) rfl (fun K hK => ?_) AllReadyH.nil
              go_simp
              ((with_reducible refine (refSame 40 41 tb ta _ (by decide) (by decide) (HTB2.out.next hBel) (HTA2.out.next hBel)).mono ?_))
              rintro e w6 ⟨rfl, hb6⟩
              rw [HSE.out]
              have hBel := hBel.trans (hb6.mono hBel.size)
              clear hb6
              refine hK.out _ _ ?_ (fun hHeld => ?_)
              · exact HALL.out _ hBel
              clear hK K
              try simp only [Act.put, List.setIfInBounds_toArray, List.set_cons_zero, List.set_cons_succ]
              refine wpAnyH_take (i := 17) (oi := ⟨some 102, _, _, _, _, _⟩) (v := ?_) rfl (by kernel_rfl) (by kernel_rfl) (by kernel_rfl) (fun _ _ _ h => h) (Or.inl ⟨by rfl, ?_⟩) (by exact hHeld) ?_
              rotate_left
              · (intro w hSw; (try dsimp only at hSw); go_simp; try (with_reducible rfl))
              simp only [Act.put, List.setIfInBounds_toArray, List.set_cons_zero, List.set_cons_succ]
              refine wpAnyH_take (i := 18) (oi := ⟨some 103, _, _, _, _, _⟩) (v := ?_) rfl (by kernel_rfl) (by kernel_rfl) (by kernel_rfl) (fun _ _ _ h => h) (Or.inl ⟨by rfl, ?_⟩) (by exact hHeld) ?_
              rotate_left
              · (intro w hSw; (try dsimp only at hSw); go_simp; try (with_reducible rfl))
              simp only [Act.put, List.setIfInBounds_toArray, List.set_cons_zero, List.set_cons_succ]
              refine wpAnyH_done (by kernel_rfl) ?_ _
              refine NoPanic.normal ?_
              go_wp2_with fail
              exact ⟨⟨i + 1, by omega, by go_num, Lib.hid (HB5.out.trans (hBel.mono HB5.out.size))⟩, by simp [intOf]; omega⟩
            · obtain rfl : i = ms.length := by omega
              go_wp2_with fail
              go_ret
              exact ⟨rfl, HB6.out.trans (HB.out.mono HB6.out.size)⟩
        · exact absurd ⟨(rot_good k).1 hgd, F, hsol.perm hgd (rot_mem ms k)⟩ hnob
      · rcases HO6.out with ⟨rfl, F2, hgd2, hsol2, _, _⟩ | ⟨hqb, hnob⟩
        · exact absurd ⟨(rot_good k).2 hgd2, F2, hsol2.perm hgd2 (fun m => (rot_mem ms k m).symm)⟩ hnoa
        · have HB6 := Lib.hid (HB2.out.trans (hB.mono HB2.out.size))
          have hqa2 := (int_ne hqa).2
          have hqb2 := (int_ne hqb).2
          clear hnoa hnob hqa hqb HOA HO6 hB hHeld
          go_wp2_with fail
          go_ret
          exact ⟨rfl, HB6.out⟩

end Go.Proofs.Ytkbfoelffeocmaa
