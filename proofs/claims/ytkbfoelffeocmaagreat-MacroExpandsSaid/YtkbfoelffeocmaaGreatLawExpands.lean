/- bolterlaw07.MacroExpands: the law's walk. -/
import Derived.Test.YtkbfoelffeocmaaGreatLawEarly
import Derived.Test.YtkbfoelffeocmaaGreatMacAwake
import Derived.Test.YtkbfoelffeocmaaGreatRefSame
import Derived.Deep.RegionHeld3
namespace Go.Proofs.YtkbfoelffeocmaaGreat
open Go.RowKit
set_option linter.unusedSimpArgs false
set_option linter.unusedVariables false

theorem sol_deep' {ms : List (ByteArray × ByteArray)} {F : ByteArray → Tr} (h : Sol ms F) {m : ByteArray × ByteArray} (hm : m ∈ ms) {t : Tr} (ht : t.strip 40 = F m.1) : deepS 40 40 t ≤ 40 := by
  obtain ⟨⟨_, hf⟩, hv⟩ := h m hm
  have := isFormed_deep hf.lv40.2
  rw [deepS_congr 40 40 t (pS m.2 (dsOf ms F)).1 (ht.trans hv)]
  exact this
theorem same_of' {w : World} {a b : Tr} (ha : Tr.In w 40 a) (he : a.strip 40 = b.strip 40) (hd : deepS 40 40 a ≤ 40) : sameS 40 41 a b = true := sameS_strip 40 40 a b (by omega) he (by omega) hd w ha

set_option maxRecDepth 100000 in
set_option maxHeartbeats 8000000 in
theorem lawExpands (ms : List (ByteArray × ByteArray)) (A : Option Addr) (n c : Nat) (w : World) (hm : MacsAt w (.slice A n c) ms) (hf : FitM ms) (hc : n ≤ c) :
    Calls Tryz.prog 3 #[.slice A n c] w fun e w' => e = .returned (.bool true) ∧ Below w.heap.size w w' := by
  obtain rfl := hm.len
  have hln := hf.1
  have HM := Lib.hid hm
  have HF := Lib.hid hf
  clear hm hf
  go_enter Tryz.func3, Tryz.ntmps3
  go_wp2_with fail
  refine (lawAwake w).mono ?_
  rintro e w1 ⟨rfl, hb1⟩
  have HB1 := Lib.hid hb1
  clear hb1
  go_wp2_with fail
  refine (lawFew ms A ms.length c w1 (HM.out.next HB1.out) HF.out).mono ?_
  rintro e w1' ⟨bf, rfl, hfew, rfl⟩
  cases bf with
  | false =>
    go_wp2_with fail
    refine (lawAwake w1').mono ?_
    rintro e w2 ⟨rfl, hb2⟩
    have HB2 := Lib.hid (HB1.out.trans (hb2.mono HB1.out.size))
    clear hb2
    go_wp2_with fail
    go_ret
    exact ⟨rfl, HB2.out⟩
  | true =>
    have HSS := Lib.hid (few_short (hfew rfl))
    clear hfew
    go_wp2_with fail
    refine (mExpand ms A ms.length c w1' (HM.out.next HB1.out) hc HSS.out.2.1 HSS.out.2.2).mono ?_
    rintro e w2 ⟨hb2, hpp⟩
    have HB2 := Lib.hid (HB1.out.trans (hb2.mono HB1.out.size))
    have HLE := Lib.hid (lawEarly ms A ms.length c)
    have HEG := Lib.hid (early_good ms)
    obtain ⟨E, hE⟩ : ∃ E, earlyS ms = E := ⟨_, rfl⟩
    rw [hE] at hpp HLE HEG
    clear hb2 hE
    rcases hpp with ⟨h1, rfl⟩ | ⟨hgood, ⟨v, F, rfl, hsol, _, hmass, g, B, ts, rfl, _, hg, hd, hts⟩ | ⟨i, p, q, rfl, hi, hq, _⟩⟩
    · have hfb := (int_ne h1).2
      clear h1
      go_wp2_with fail
      refine (HLE.out w2 (HM.out.next HB2.out) HSS.out.2.1).mono ?_
      rintro e w3 ⟨rfl, hb3⟩
      have HB3 := Lib.hid (HB2.out.trans (hb3.mono HB2.out.size))
      clear hb3
      go_wp2_with fail
      go_ret
      exact ⟨by simp, HB3.out⟩
    · have HE0 : Hid (E.2.2 = 0) := Lib.hid (HEG.out.2 hgood)
      have HSol := Lib.hid hsol
      have HGd := Lib.hid hgood
      have HMass := Lib.hid hmass
      have HTS := Lib.hid hts
      have HD2 := Lib.hid hd
      have HG2 := Lib.hid hg
      clear hsol hgood hmass hts hd hg
      go_wp2_with fail
      refine (HLE.out w2 (HM.out.next HB2.out) HSS.out.2.1).mono ?_
      rintro e w3 ⟨rfl, hb3⟩
      rw [HE0.out]
      have HB3 := Lib.hid (HB2.out.trans (hb3.mono HB2.out.size))
      have HD3 := Lib.hid (HD2.out.next HG2.out hb3)
      have HG3 : Hid (g < w3.heap.size) := Lib.hid (Nat.lt_of_lt_of_le HG2.out hb3.size)
      have HM3 := Lib.hid (HM.out.next HB3.out)
      clear hb3
      go_wp2_with fail
      go_loopw [89] (fun i wr => ∃ (k : Nat), k ≤ ms.length ∧ i = .int .i64 k ∧ Hid (Below w3.heap.size w3 wr)) (fun i _ => ms.length - (intOf i).toNat)
      case atStart => exact ⟨0, Nat.zero_le _, rfl, Lib.hid (Below.refl _ _)⟩
      case round =>
        obtain ⟨k, hk, rfl, HB⟩ := hrel
        by_cases hkl : k < ms.length
        · have hkz : (0 : Int) ≤ (k : Int) := by omega
          have hkn : (k : Int) < (ms.length : Int) := by omega
          have HMr := Lib.hid (HM3.out.next HB.out)
          obtain ⟨A', cap, e1, _, h3⟩ := id HMr.out
          injection e1 with e1 _ e3
          subst e1
          subst e3
          obtain ⟨b, off, rfl, hb, hr⟩ := h3 (by omega)
          have c1 : wr.cell? ⟨b, off + k * 2 + 1, none⟩ = some (.string (atM ms k).2) := hr k hkl 1 _ rfl
          have c0 : wr.cell? ⟨b, off + k * 2, none⟩ = some (.string (atM ms k).1) := hr k hkl 0 _ rfl
          have hgr : g < wr.heap.size := Nat.lt_of_lt_of_le HG3.out HB.out.size
          have hDr := HD3.out.next HG3.out HB.out
          have HDF := Lib.hid (hDr.defs hgr HGd.out.few HTS.out ms.length)
          have hmk := atM_mem hkl
          have HOK := Lib.hid (HSol.out _ hmk)
          have HWZ := Lib.hid (HGd.out.words _ hmk).1
          have hsz := (HSS.out.2.1 k hkl).2
          have hsm := HSS.out.2.2 k hkl
          have hn1 : wr.cell? ⟨g, k * 10, none⟩ = some (.string (atM ms k).1) := hDr.names k hkl 0 _ rfl
          have hn2 := hDr.trees k hkl
          have htk := (hDr.ins k hkl).1
          have hst := HTS.out k hkl
          have hdp : ∀ t : Tr, t.strip 40 = F (atM ms k).1 → deepS 40 40 t ≤ 40 := fun t ht => sol_deep' HSol.out hmk ht
          have hmass : (pS (atM ms k).2 (dsOf ms F)).2.flt = 0 → ∀ j, massS j (pS (atM ms k).2 (dsOf ms F)).1 ≤ 4000000 := fun q j => by
            have h1 := pS_mass (ds_mass (ms := ms) HMass.out) (by omega) q j
            have h2 := Nat.mul_le_mul_left 1000 hsm
            omega
          have HC0 := Lib.hid c0
          have HN1 := Lib.hid hn1
          have HN2 := Lib.hid hn2
          have HTK0 := Lib.hid htk
          have HST := Lib.hid hst
          have HDP := Lib.hid hdp
          have HMS := Lib.hid hmass
          have HSZ := Lib.hid hsz
          have HBW := Lib.hid hb
          have HGW := Lib.hid hgr
          clear hr h3 c0 hn1 hn2 htk hst hdp hmass hsz hsm hDr hmk hb hgr
          go_wp2_with fail
          refine (tParse (atM ms k).2 HSZ.out (some ⟨g, 0, none⟩) ms.length ms.length (dsOf ms F) wr HDF.out HMS.out).mono ?_
          rintro e wq ⟨t, p, q, rfl, hbq, hpp⟩
          rcases hpp with ⟨hq, _, hpe⟩ | ⟨rfl, rfl, _, _, _, hti, _, hts⟩
          · exfalso
            rcases hpe with h | h | h
            · exact h.1 HWZ.out
            · exact h.2.1 HOK.out.1.1
            · exact h.2.2.1 HOK.out.1.2
          have hbx := boxW_next wq t
          have HX5 := Lib.hid (boxW_at wq t)
          have HBq := Lib.hid (hbq.trans (hbx.mono hbq.size))
          have HB5 := Lib.hid (HB.out.trans (HBq.out.mono HB.out.size))
          have HTI := Lib.hid (hti.next hbx)
          have HE1 : Hid (t.strip 40 = F (atM ms k).1) := Lib.hid (hts.trans HOK.out.2.symm)
          have HTK := Lib.hid (HTK0.out.next HBq.out)
          have HSE : Hid (sameS 40 41 t (ts k) = true) := Lib.hid (same_of' HTI.out.1 (HE1.out.trans HST.out.symm) (HDP.out t HE1.out))
          have honeT := Tr.one t
          have HALL : Hid (∀ w', Below (boxW wq t).heap.size (boxW wq t) w' → w'.cell? ⟨g, k * 10, none⟩ = some (.string (atM ms k).1) ∧ w'.cell? ⟨b, off + k * 2, none⟩ = some (.string (atM ms k).1) ∧ w'.rangeAt wq.heap.size 0 t.cs ∧ w'.rangeAt g (k * 10 + 1) (ts k).cs) := Lib.hid (fun w' hb' => by
            have hbw := HBq.out.trans (hb'.mono HBq.out.size)
            refine ⟨by rw [World.cell?_of_block (w := wr) (hbw.block g HGW.out)]; exact HN1.out, by rw [World.cell?_of_block (w := wr) (hbw.block b HBW.out)]; exact HC0.out, fun i u hu => ?_, range_below HN2.out HGW.out (Nat.le_refl _) hbw⟩
            rw [(At.below HX5.out hb' HX5.out.lt).cell, Nat.zero_add, List.getElem?_toArray]; exact hu)
          obtain ⟨nm, hnm⟩ : ∃ nm, (atM ms k).1 = nm := ⟨_, rfl⟩
          obtain ⟨tk, htk⟩ : ∃ tk, ts k = tk := ⟨_, rfl⟩
          rw [hnm, htk] at HALL
          rw [htk] at HSE HTK
          have HTIn : Hid (Tr.In (boxW wq t) 40 t) := Lib.hid HTI.out.1
          have HTKn : Hid (Tr.In (boxW wq t) 40 tk) := Lib.hid HTK.out.1
          clear hbq hti hts hbx hnm htk c1 HN1 HN2 HTK0 HST HDP HMS HC0
          go_wp2_with (first
            | (with_reducible show wpList _ _ _ ({ dst := none, op := .store _ _ _, type := _, pos := _, after := _, guard := _ } :: _) _ _
               refine wpList_store_row rfl 36 _ _ rfl wq.heap.size t.cs.toArray rfl rfl 36 Tr.blank.cs.toArray (At.new _ _ _) (by kernel_rfl) rfl honeT ?_
               first | change wpList _ _ _ _ _ (boxW wq t) | change Exit.then _ _ _ _ (boxW wq t))
            | fail)
          have hBel : Below (boxW wq t).heap.size (boxW wq t) (boxW wq t).drew := (Below.refl _ _).drew
          refine wp_region_noPanic ?_
          refine wp_region_held_drew (S := (fun w' => w'.cell? ⟨g, k * 10, none⟩ = some (.string nm) ∧ w'.cell? ⟨b, off + k * 2, none⟩ = some (.string nm) ∧ w'.rangeAt wq.heap.size 0 t.cs ∧ w'.rangeAt g (k * 10 + 1) tk.cs)) (by kernel_rfl) (by exact HALL.out _ hBel) (fun hHeld => ?_)
          refine wpAnyH_take (i := 0) (oi := ⟨some 103, _, _, _, _, _⟩) (v := ?_) rfl (by kernel_rfl) (by kernel_rfl) (by kernel_rfl) (fun _ _ _ h => h) (Or.inl ⟨by rfl, ?_⟩) (by exact hHeld) ?_
          rotate_left
          · (intro w hSw; (try dsimp only at hSw); go_simp; try (with_reducible rfl))
          simp only [Act.put, List.setIfInBounds_toArray, List.set_cons_zero, List.set_cons_succ]
          refine wpAnyH_take (i := 1) (oi := ⟨some 104, _, _, _, _, _⟩) (v := ?_) rfl (by kernel_rfl) (by kernel_rfl) (by kernel_rfl) (fun _ _ _ h => h) (Or.inl ⟨by rfl, ?_⟩) (by exact hHeld) ?_
          rotate_left
          · (intro w hSw; (try dsimp only at hSw); go_simp; try (with_reducible rfl))
          simp only [Act.put, List.setIfInBounds_toArray, List.set_cons_zero, List.set_cons_succ]
          refine wpAnyH_take (i := 2) (oi := ⟨some 105, _, _, _, _, _⟩) (v := ?_) rfl (by kernel_rfl) (by kernel_rfl) (by kernel_rfl) (fun _ _ _ h => h) (Or.inl ⟨by rfl, ?_⟩) (by exact hHeld) ?_
          rotate_left
          · (intro w hSw; (try dsimp only at hSw); go_simp; try (with_reducible rfl))
          simp only [Act.put, List.setIfInBounds_toArray, List.set_cons_zero, List.set_cons_succ]
          refine wpAnyH_take (i := 3) (oi := ⟨some 106, _, _, _, _, _⟩) (v := ?_) rfl (by kernel_rfl) (by kernel_rfl) (by kernel_rfl) (fun _ _ _ h => h) (Or.inl ⟨by rfl, ?_⟩) (by exact hHeld) ?_
          rotate_left
          · (intro w hSw; (try dsimp only at hSw); go_simp; try (with_reducible rfl))
          simp only [Act.put, List.setIfInBounds_toArray, List.set_cons_zero, List.set_cons_succ]
          refine wpAnyH_take (i := 4) (oi := ⟨some 107, _, _, _, _, _⟩) (v := ?_) rfl (by kernel_rfl) (by kernel_rfl) (by kernel_rfl) (fun _ _ _ h => h) (Or.inl ⟨by rfl, ?_⟩) (by exact hHeld) ?_
          rotate_left
          · (intro w hSw; (try dsimp only at hSw); go_simp; try (with_reducible rfl))
          simp only [Act.put, List.setIfInBounds_toArray, List.set_cons_zero, List.set_cons_succ]
          refine wpAnyH_take (i := 5) (oi := ⟨some 108, _, _, _, _, _⟩) (v := ?_) rfl (by kernel_rfl) (by kernel_rfl) (by kernel_rfl) (fun _ _ _ h => h) (Or.inl ⟨by rfl, ?_⟩) (by exact hHeld) ?_
          rotate_left
          · (intro w hSw; (try dsimp only at hSw); go_simp; try (with_reducible rfl))
          simp only [Act.put, List.setIfInBounds_toArray, List.set_cons_zero, List.set_cons_succ]
          refine wpAnyH_take (i := 6) (oi := ⟨some 109, _, _, _, _, _⟩) (v := ?_) rfl (by kernel_rfl) (by kernel_rfl) (by kernel_rfl) (fun _ _ _ h => h) (Or.inl ⟨by rfl, ?_⟩) (by exact hHeld) ?_
          rotate_left
          · (intro w hSw; (try dsimp only at hSw); go_simp; try (with_reducible rfl))
          simp only [Act.put, List.setIfInBounds_toArray, List.set_cons_zero, List.set_cons_succ]
          refine wpAnyH_take (i := 7) (oi := ⟨some 110, _, _, _, _, _⟩) (v := ?_) rfl (by kernel_rfl) (by kernel_rfl) (by kernel_rfl) (fun _ _ _ h => h) (Or.inl ⟨by rfl, ?_⟩) (by exact hHeld) ?_
          rotate_left
          · (intro w hSw; (try dsimp only at hSw); obtain ⟨s1, s2, _, _⟩ := hSw; go_simp; try (with_reducible rfl))
          simp only [Act.put, List.setIfInBounds_toArray, List.set_cons_zero, List.set_cons_succ]
          refine wpAnyH_take (i := 8) (oi := ⟨some 111, _, _, _, _, _⟩) (v := ?_) rfl (by kernel_rfl) (by kernel_rfl) (by kernel_rfl) (fun _ _ _ h => h) (Or.inl ⟨by rfl, ?_⟩) (by exact hHeld) ?_
          rotate_left
          · (intro w hSw; (try dsimp only at hSw); go_simp; try (with_reducible rfl))
          simp only [Act.put, List.setIfInBounds_toArray, List.set_cons_zero, List.set_cons_succ]
          refine wpAnyH_take (i := 9) (oi := ⟨some 112, _, _, _, _, _⟩) (v := ?_) rfl (by kernel_rfl) (by kernel_rfl) (by kernel_rfl) (fun _ _ _ h => h) (Or.inl ⟨by rfl, ?_⟩) (by exact hHeld) ?_
          rotate_left
          · (intro w hSw; (try dsimp only at hSw); go_simp; try (with_reducible rfl))
          simp only [Act.put, List.setIfInBounds_toArray, List.set_cons_zero, List.set_cons_succ]
          refine wpAnyH_take (i := 10) (oi := ⟨some 113, _, _, _, _, _⟩) (v := ?_) rfl (by kernel_rfl) (by kernel_rfl) (by kernel_rfl) (fun _ _ _ h => h) (Or.inl ⟨by rfl, ?_⟩) (by exact hHeld) ?_
          rotate_left
          · (intro w hSw; (try dsimp only at hSw); go_simp; try (with_reducible rfl))
          simp only [Act.put, List.setIfInBounds_toArray, List.set_cons_zero, List.set_cons_succ]
          refine wpAnyH_take (i := 11) (oi := ⟨some 114, _, _, _, _, _⟩) (v := ?_) rfl (by kernel_rfl) (by kernel_rfl) (by kernel_rfl) (fun _ _ _ h => h) (Or.inl ⟨by rfl, ?_⟩) (by exact hHeld) ?_
          rotate_left
          · (intro w hSw; (try dsimp only at hSw); go_simp; try (with_reducible rfl))
          simp only [Act.put, List.setIfInBounds_toArray, List.set_cons_zero, List.set_cons_succ]
          refine wpAnyH_take (i := 12) (oi := ⟨some 115, _, _, _, _, _⟩) (v := ?_) rfl (by kernel_rfl) (by kernel_rfl) (by kernel_rfl) (fun _ _ _ h => h) (Or.inl ⟨by rfl, ?_⟩) (by exact hHeld) ?_
          rotate_left
          · (intro w hSw; (try dsimp only at hSw); obtain ⟨s1, s2, _, _⟩ := hSw; go_simp; try (with_reducible rfl))
          simp only [Act.put, List.setIfInBounds_toArray, List.set_cons_zero, List.set_cons_succ]
          refine wpAnyH_take (i := 13) (oi := ⟨some 116, _, _, _, _, _⟩) (v := ?_) rfl (by kernel_rfl) (by kernel_rfl) (by kernel_rfl) (fun _ _ _ h => h) (Or.inl ⟨by rfl, ?_⟩) (by exact hHeld) ?_
          rotate_left
          · (intro w hSw; (try dsimp only at hSw); go_simp; try (with_reducible rfl))
          simp only [Act.put, List.setIfInBounds_toArray, List.set_cons_zero, List.set_cons_succ]
          refine wpAnyH_take (i := 14) (oi := ⟨some 117, _, _, _, _, _⟩) (v := ?_) rfl (by kernel_rfl) (by kernel_rfl) (by kernel_rfl) (fun _ _ _ h => h) (Or.inl ⟨by rfl, ?_⟩) (by exact hHeld) ?_
          rotate_left
          · (intro w hSw; (try dsimp only at hSw); go_simp; try (with_reducible rfl))
          simp only [Act.put, List.setIfInBounds_toArray, List.set_cons_zero, List.set_cons_succ]
          refine wpAnyH_take (i := 15) (oi := ⟨some 118, _, _, _, _, _⟩) (v := ?_) rfl (by kernel_rfl) (by kernel_rfl) (by kernel_rfl) (fun _ _ _ h => h) (Or.inl ⟨by rfl, ?_⟩) (by exact hHeld) ?_
          rotate_left
          · (intro w hSw; (try dsimp only at hSw); go_simp; try (with_reducible rfl))
          simp only [Act.put, List.setIfInBounds_toArray, List.set_cons_zero, List.set_cons_succ]
          refine wpAnyH_take (i := 16) (oi := ⟨some 119, _, _, _, _, _⟩) (v := _) rfl (by kernel_rfl) (by kernel_rfl) (by kernel_rfl) (fun _ _ _ h => h) (yieldsIf_load_mid (by rfl) 36 _ rfl wq.heap.size 0 rfl t.cs _ (fun _ h => h.2.2.1) Tryz.underlying36 rfl (by rw [Tr.cs_length]; kernel_rfl)) (by exact hHeld) ?_
          simp only [Act.put, List.setIfInBounds_toArray, List.set_cons_zero, List.set_cons_succ]
          refine wpAnyH_take (i := 17) (oi := ⟨some 120, _, _, _, _, _⟩) (v := ?_) rfl (by kernel_rfl) (by kernel_rfl) (by kernel_rfl) (fun _ _ _ h => h) (Or.inl ⟨by rfl, ?_⟩) (by exact hHeld) ?_
          rotate_left
          · (intro w hSw; (try dsimp only at hSw); go_simp; try (with_reducible rfl))
          simp only [Act.put, List.setIfInBounds_toArray, List.set_cons_zero, List.set_cons_succ]
          refine wpAnyH_take (i := 18) (oi := ⟨some 121, _, _, _, _, _⟩) (v := ?_) rfl (by kernel_rfl) (by kernel_rfl) (by kernel_rfl) (fun _ _ _ h => h) (Or.inl ⟨by rfl, ?_⟩) (by exact hHeld) ?_
          rotate_left
          · (intro w hSw; (try dsimp only at hSw); go_simp; try (with_reducible rfl))
          simp only [Act.put, List.setIfInBounds_toArray, List.set_cons_zero, List.set_cons_succ]
          refine wpAnyH_take (i := 19) (oi := ⟨some 122, _, _, _, _, _⟩) (v := ?_) rfl (by kernel_rfl) (by kernel_rfl) (by kernel_rfl) (fun _ _ _ h => h) (Or.inl ⟨by rfl, ?_⟩) (by exact hHeld) ?_
          rotate_left
          · (intro w hSw; (try dsimp only at hSw); go_simp; try (with_reducible rfl))
          simp only [Act.put, List.setIfInBounds_toArray, List.set_cons_zero, List.set_cons_succ]
          refine wpAnyH_take (i := 20) (oi := ⟨some 123, _, _, _, _, _⟩) (v := ?_) rfl (by kernel_rfl) (by kernel_rfl) (by kernel_rfl) (fun _ _ _ h => h) (Or.inl ⟨by rfl, ?_⟩) (by exact hHeld) ?_
          rotate_left
          · (intro w hSw; (try dsimp only at hSw); go_simp; try (with_reducible rfl))
          simp only [Act.put, List.setIfInBounds_toArray, List.set_cons_zero, List.set_cons_succ]
          refine wpAnyH_take (i := 21) (oi := ⟨some 124, _, _, _, _, _⟩) (v := _) rfl (by kernel_rfl) (by kernel_rfl) (by kernel_rfl) (fun _ _ _ h => h) (yieldsIf_load_mid (by rfl) 36 _ rfl g (k * 10 + 1) rfl tk.cs _ (fun _ h => h.2.2.2) Tryz.underlying36 rfl (by rw [Tr.cs_length]; kernel_rfl)) (by exact hHeld) ?_
          simp only [Act.put, List.setIfInBounds_toArray, List.set_cons_zero, List.set_cons_succ]
          refine wpAnyH_ready (rs := [22]) (by kernel_rfl) (by simp) ?_
          refine AllReadyH.cons (o := ⟨some 125, _, _, _, _, _⟩) rfl (fun K hK => ?_) AllReadyH.nil
          go_simp
          ((with_reducible refine (refSame 40 41 t tk _ (by decide) (by decide) (HTIn.out.next hBel) (HTKn.out.next hBel)).mono ?_))
          rintro e w6 ⟨rfl, hb6⟩
          rw [HSE.out]
          have hBel := hBel.trans (hb6.mono hBel.size)
          clear hb6
          refine hK.out _ _ ?_ (fun hHeld => ?_)
          · exact HALL.out _ hBel
          clear hK K
          try simp only [Act.put, List.setIfInBounds_toArray, List.set_cons_zero, List.set_cons_succ]
          refine wpAnyH_take (i := 23) (oi := ⟨some 126, _, _, _, _, _⟩) (v := ?_) rfl (by kernel_rfl) (by kernel_rfl) (by kernel_rfl) (fun _ _ _ h => h) (Or.inl ⟨by rfl, ?_⟩) (by exact hHeld) ?_
          rotate_left
          · (intro w hSw; (try dsimp only at hSw); go_simp; try (with_reducible rfl))
          simp only [Act.put, List.setIfInBounds_toArray, List.set_cons_zero, List.set_cons_succ]
          refine wpAnyH_take (i := 24) (oi := ⟨some 127, _, _, _, _, _⟩) (v := ?_) rfl (by kernel_rfl) (by kernel_rfl) (by kernel_rfl) (fun _ _ _ h => h) (Or.inl ⟨by rfl, ?_⟩) (by exact hHeld) ?_
          rotate_left
          · (intro w hSw; (try dsimp only at hSw); go_simp; try (with_reducible rfl))
          simp only [Act.put, List.setIfInBounds_toArray, List.set_cons_zero, List.set_cons_succ]
          refine wpAnyH_done (by kernel_rfl) ?_ _
          refine NoPanic.normal ?_
          go_wp2_with fail
          exact ⟨⟨k + 1, by omega, by go_num, Lib.hid (HB5.out.trans (hBel.mono HB5.out.size))⟩, by simp [intOf]; omega⟩
        · obtain rfl : k = ms.length := by omega
          go_wp2_with fail
          go_ret
          exact ⟨rfl, HB3.out.trans (HB.out.mono HB3.out.size)⟩
    · have HE0 : Hid (E.2.2 = 0) := Lib.hid (HEG.out.2 hgood)
      have hiz : (0 : Int) ≤ (i : Int) := by omega
      have hin : (i : Int) < (ms.length : Int) := by omega
      have hqn : ¬ q = 0 := by omega
      have hqb := (int_ne hqn).2
      have HQ := Lib.hid hq
      clear hi hq hqn hgood
      go_wp2_with fail
      refine (HLE.out w2 (HM.out.next HB2.out) HSS.out.2.1).mono ?_
      rintro e w3 ⟨rfl, hb3⟩
      rw [HE0.out]
      have HB3 := Lib.hid (HB2.out.trans (hb3.mono HB2.out.size))
      clear hb3
      rcases HQ.out with rfl | rfl | rfl
      · go_wp2_with fail
        go_ret
        exact ⟨rfl, HB3.out⟩
      · go_wp2_with fail
        go_ret
        exact ⟨rfl, HB3.out⟩
      · go_wp2_with fail
        go_ret
        exact ⟨rfl, HB3.out⟩

end Go.Proofs.YtkbfoelffeocmaaGreat
