/- bolterlaw05.ParseNames: the law's walk where all is asked. -/
import Derived.Test.YtjfdejcgkblleaaLawNames
import Derived.Deep.DeepCutAuto
namespace Go.Proofs.Ytjfdejcgkblleaa
open Go.RowKit
set_option linter.unusedSimpArgs false
set_option linter.unusedVariables false

set_option maxRecDepth 100000 in
set_option maxHeartbeats 16000000 in
theorem lawNamesMain (k : Nat) (t : Tr) (u : ByteArray) (w : World) (h : Tr.Ins w k t) (hf : nodesS k 60 t ≤ 2000) (hl : ¬ 100 < u.size) (hn : isFormed k t = true) (hu : namedS u = true) :
    Calls Try.prog 4 #[.agg t.cs.toArray, .string u] w fun e w' => e = .returned (.bool true) ∧ Below w.heap.size w w' := by
  have hA0 : At (w.alloc (.cells t.cs.toArray 28)) w.heap.size 28 t.cs.toArray := At.new _ _ _
  obtain ⟨w1, hw1⟩ : ∃ w1, w1 = w.alloc (.cells t.cs.toArray 28) := ⟨_, rfl⟩
  have hb1 : Below w.heap.size w w1 := by rw [hw1]; exact (Below.refl _ _).alloc (Nat.le_refl _) _
  have HA1 : Hid (At w1 w.heap.size 28 t.cs.toArray) := Lib.hid (by rw [hw1]; exact hA0)
  have HB1 := Lib.hid hb1
  have HI1 := Lib.hid (h.next hb1)
  have HW1 := Lib.hid hw1
  clear hA0 hb1 hw1 h
  have hd : decide (nodesS k 60 t ≤ 2000) = true := decide_eq_true hf
  have hl2 : ¬ (100 : Int) < (u.size : Int) := by omega
  have hdl : decide ((100 : Int) < (u.size : Int)) = false := decide_eq_false hl2
  have HN := Lib.hid hn
  have HU := Lib.hid hu
  have hsz := named_size hu
  have HMS : Hid (∀ k', massS k' t ≤ 2000) := Lib.hid (by
    have h0 := few_mass k 60 t HI1.out.1.lv hf
    exact mass_all HI1.out.1.lv (by omega))
  clear hf hn hu
  go_enter Try.func4, Try.ntmps4
  go_wp2_with fail
  rw [← HW1.out]
  refine (lawAwake5 w1).mono ?_
  rintro e w2 ⟨rfl, hb⟩
  have HA2 := Lib.hid (At.below HA1.out hb HA1.out.lt)
  have HB2 := Lib.hid (HB1.out.trans (hb.mono HB1.out.size))
  have HI2 := Lib.hid (HI1.out.next hb)
  clear hb
  go_wp2_with (first | ((with_reducible show wpList _ _ _ ({ dst := _, op := .load 28 _, type := _, pos := _, after := _, guard := _ } :: _) _ _); refine wpList_load_row_want (by rfl) 28 _ rfl w.heap.size rfl 28 t.cs.toArray (0, 0) _ HA2.out Try.underlying28 rfl (by kernel_rfl) ?_) | fail)
  refine (lawFew k 60 t w2 (by omega) (by omega) HI2.out.1).mono ?_
  rintro e w3 ⟨rfl, hb⟩
  have HA3 := Lib.hid (At.below HA2.out hb HA2.out.lt)
  have HB3 := Lib.hid (HB2.out.trans (hb.mono HB2.out.size))
  have HI3 := Lib.hid (HI2.out.next hb)
  clear hb
  rw [hd]
  go_wp2_with (first | ((with_reducible show wpList _ _ _ ({ dst := _, op := .load 28 _, type := _, pos := _, after := _, guard := _ } :: _) _ _); refine wpList_load_row_want (by rfl) 28 _ rfl w.heap.size rfl 28 t.cs.toArray (0, 0) _ HA3.out Try.underlying28 rfl (by kernel_rfl) ?_) | fail)
  refine (refFormed k t w3 HI3.out.1).mono ?_
  rintro e w4 ⟨rfl, hb⟩
  have HA4 := Lib.hid (At.below HA3.out hb HA3.out.lt)
  have HB4 := Lib.hid (HB3.out.trans (hb.mono HB3.out.size))
  have HI4 := Lib.hid (HI3.out.next hb)
  clear hb
  rw [HN.out]
  go_wp2_with fail
  refine (refNamed u (by omega) w4).mono ?_
  rintro e w5 ⟨rfl, rfl⟩
  rw [HU.out]
  obtain ⟨w6, hw6⟩ : ∃ w6, w6 = w4.alloc (.cells (defCs u t ++ defCs u (leafT 10 ⟨0, 0, 0, 0⟩ false)).toArray 40) := ⟨_, rfl⟩
  have hb6 : Below w4.heap.size w4 w6 := by rw [hw6]; exact (Below.refl _ _).alloc (Nat.le_refl _) _
  have hD6 : At w6 w4.heap.size 40 (defCs u t ++ defCs u (leafT 10 ⟨0, 0, 0, 0⟩ false)).toArray := by rw [hw6]; exact At.new _ _ _
  have HA6 := Lib.hid (At.below HA4.out hb6 HA4.out.lt)
  have HB6 := Lib.hid (HB4.out.trans (hb6.mono HB4.out.size))
  have HI6 := Lib.hid (HI4.out.next hb6)
  have HD6 := Lib.hid hD6
  have HW6 := Lib.hid hw6
  clear hb6 hD6 hw6
  go_wp2_with (first
    | (with_reducible show wpList _ _ _ ({ dst := _, op := .load 28 _, type := _, pos := _, after := _, guard := _ } :: _) _ _
       refine wpList_load_row rfl 28 _ rfl w.heap.size rfl 28 t.cs.toArray (0, 0) _ HA4.out Try.underlying28 rfl (by kernel_rfl) ?_)
    | (with_reducible show wpList _ _ _ ({ dst := _, op := .build 40 #[(0, .tmp 38), (1, .tmp 39)], type := _, pos := _, after := _, guard := _ } :: _) _ _
       refine wpList_build_two rfl _ _ u t rfl rfl rfl ?_)
    | (with_reducible show wpList _ _ _ ({ dst := _, op := .build 40 #[(0, .tmp 41), (1, .tmp 42)], type := _, pos := _, after := _, guard := _ } :: _) _ _
       refine wpList_build_two rfl _ _ u (leafT 10 ⟨0, 0, 0, 0⟩ false) rfl rfl rfl ?_)
    | (with_reducible show wpList _ _ _ ({ dst := _, op := .buildSlice _ _ _, type := _, pos := _, after := _, guard := _ } :: _) _ _
       refine wpList_slice_two rfl _ _ u u t (leafT 10 ⟨0, 0, 0, 0⟩ false) rfl rfl rfl ?_
       rw [← HW6.out])
    | fail)
  clear hdl hl2 hl
  obtain ⟨R, hR⟩ : ∃ R, t.strip k = R := ⟨_, rfl⟩
  have hlvt := HI1.out.1.lv
  have HLV : Hid (Tr.Lv k t) := Lib.hid hlvt
  have HST : Hid (∀ k', k ≤ k' → t.strip k' = R) := Lib.hid (fun k' hk => by rw [← hR]; exact strip_same hlvt hk)
  have HMR : Hid (∀ d ∈ [(u, R), (u, leafT 10 ⟨0, 0, 0, 0⟩ false)], ∀ k', massS k' d.2 ≤ 2000) := Lib.hid (fun d hd k' => by
    rcases List.mem_cons.1 hd with rfl | hd
    · have h0 : massS k R ≤ 2000 := by have := mass_strip k 0 t; rw [Nat.add_zero] at this; rw [← hR, this]; exact HMS.out k
      exact mass_all (by rw [← hR]; exact Tr.Lv.strip k t hlvt) h0 k'
    · have : d = (u, leafT 10 ⟨0, 0, 0, 0⟩ false) := by simpa using hd
      subst this
      rw [leaf_mass]; omega)
  have HFR : Hid (FormedT R) := Lib.hid ⟨k, by rw [← hR]; exact Tr.Lv.strip k t hlvt, by rw [← hR, isFormed_strip (strip_strip k t)]; exact HN.out⟩
  have HFT : Hid (isFormed 40 t = true ∧ Tr.In w1 40 t ∧ R.strip 40 = t.strip 40) := Lib.hid (by
    have h40 := deep_in k 40 t HI1.out.1 (isFormed_deep HN.out)
    exact ⟨FormedT.at ⟨k, hlvt, HN.out⟩ h40.lv, h40, by rw [← strip_same hlvt (show k ≤ 40 + k by omega)] at hR; rw [← hR, strip_down]⟩)
  have HR := Lib.hid hR
  clear hR hlvt
  have hmass : ∀ s : ByteArray, s.size ≤ 30 → (pS s [(u, R), (u, leafT 10 ⟨0, 0, 0, 0⟩ false)]).2.flt = 0 → ∀ k', massS k' (pS s [(u, R), (u, leafT 10 ⟨0, 0, 0, 0⟩ false)]).1 ≤ 100000 := fun s hs hf k' => by
    have := pS_mass (W := 2000) HMR.out (by omega) hf k'
    omega
  have HMA := Lib.hid hmass
  have hz1 : (t1 u).size = u.size + 2 := by unfold t1; rw [app_size, app_size, sz1, sz1]; omega
  have hz2 : (t2 u).size = u.size + 5 := by unfold t2; rw [app_size, app_size, sz2, sz3]; omega
  have hz3 : (t3 u).size = u.size + 4 := by unfold t3; rw [app_size, app_size, sz2, sz2]; omega
  have HZ : Hid ((t1 u).size ≤ 30 ∧ (t2 u).size ≤ 30 ∧ (t3 u).size ≤ 30) := Lib.hid ⟨by omega, by omega, by omega⟩
  clear hmass hz1 hz2 hz3
  -- the first text
  have P1 := tParse (t1 u) (by have := HZ.out; omega) (some ⟨w4.heap.size, 0, none⟩) 2 2 [(u, R), (u, leafT 10 ⟨0, 0, 0, 0⟩ false)] w6 (defs_two HD6.out HI6.out HST.out) (HMA.out _ HZ.out.1)
  refine P1.mono ?_
  rintro e w7 hpp
  obtain ⟨x, rfl, hb, hin, hfr, hst⟩ := hpp.good (by rw [words_t1 u HU.out]) (by rw [read_t1 u R _ HU.out]) (by rw [read_t1 u R _ HU.out]) HFR.out
  have honex := Tr.one x
  have hbx := hb.trans ((boxW_next w7 x).mono hb.size)
  have HX8 := Lib.hid (boxW_at w7 x)
  have HXI8 := Lib.hid (hin.next (boxW_next w7 x))
  have HXS : Hid (x.strip 40 = t.strip 40) := Lib.hid (hst.trans HFT.out.2.2)
  have HA8 := Lib.hid (At.below HA6.out hbx HA6.out.lt)
  have HD8 := Lib.hid (At.below HD6.out hbx HD6.out.lt)
  have HB8 := Lib.hid (HB6.out.trans (hbx.mono HB6.out.size))
  have HI8 := Lib.hid (HI6.out.next hbx)
  clear P1 hpp hb hin hfr hst hbx
  go_wp2_with (first | ((with_reducible show wpList _ _ _ ({ dst := none, op := .store 28 _ _, type := _, pos := _, after := _, guard := _ } :: _) _ _); (refine wpList_store_row rfl 28 _ _ rfl w7.heap.size x.cs.toArray rfl rfl 28 Tr.blank.cs.toArray (At.new _ _ _) (by kernel_rfl) rfl honex ?_); (first | change wpList _ _ _ _ _ (boxW w7 x) | change Exit.then _ _ _ _ (boxW w7 x))) | fail)
  -- the second text
  have P2 := tParse (t2 u) (by have := HZ.out; omega) (some ⟨w4.heap.size, 0, none⟩) 2 2 [(u, R), (u, leafT 10 ⟨0, 0, 0, 0⟩ false)] (boxW w7 x) (defs_two HD8.out HI8.out HST.out) (HMA.out _ HZ.out.2.1)
  refine P2.mono ?_
  rintro e w9 ⟨y, p2, q2, rfl, hb, hc2⟩
  have HC2 : Hid (FormedT (nodeT 4 [R, leafT 2 (St.zero.put 97) false] 0 0 false) → q2 = 0 ∧ Tr.In w9 40 y ∧ y.strip 40 = (nodeT 4 [R, leafT 2 (St.zero.put 97) false] 0 0 false).strip 40) := Lib.hid (fun hF => by
    rcases hc2 with ⟨_, _, h⟩ | ⟨rfl, rfl, _, _, _, h1, h2, h3⟩
    · rcases h with h | h | h
      · exact absurd (by rw [words_t2 u HU.out]) h.1
      · exact absurd (by rw [read_t2 u R _ HU.out]) h.2.1
      · exact absurd (by rw [read_t2 u R _ HU.out]; exact hF) h.2.2.1
    · exact ⟨rfl, h1, by rw [h3, read_t2 u R _ HU.out]⟩)
  have honey := Tr.one y
  have hby := hb.trans ((boxW_next w9 y).mono hb.size)
  have HY10 := Lib.hid (boxW_at w9 y)
  have HYN : Hid (∀ k', Tr.In w9 k' y → Tr.In (boxW w9 y) k' y) := Lib.hid (fun k' h => h.next (boxW_next w9 y))
  have HX10 := Lib.hid (At.below HX8.out hby HX8.out.lt)
  have HXI10 := Lib.hid (HXI8.out.next hby)
  have HA10 := Lib.hid (At.below HA8.out hby HA8.out.lt)
  have HD10 := Lib.hid (At.below HD8.out hby HD8.out.lt)
  have HB10 := Lib.hid (HB8.out.trans (hby.mono HB8.out.size))
  have HI10 := Lib.hid (HI8.out.next hby)
  clear P2 hc2 hb hby
  go_wp2_with (first | ((with_reducible show wpList _ _ _ ({ dst := none, op := .store 28 _ _, type := _, pos := _, after := _, guard := _ } :: _) _ _); (refine wpList_store_row rfl 28 _ _ rfl w9.heap.size y.cs.toArray rfl rfl 28 Tr.blank.cs.toArray (At.new _ _ _) (by kernel_rfl) rfl honey ?_); (first | change wpList _ _ _ _ _ (boxW w9 y) | change Exit.then _ _ _ _ (boxW w9 y))) | fail)
  -- the third text
  have P3 := tParse (t3 u) (by have := HZ.out; omega) (some ⟨w4.heap.size, 0, none⟩) 2 2 [(u, R), (u, leafT 10 ⟨0, 0, 0, 0⟩ false)] (boxW w9 y) (defs_two HD10.out HI10.out HST.out) (HMA.out _ HZ.out.2.2)
  refine P3.mono ?_
  rintro e w11 ⟨z, p3, q3, rfl, hb, hc3⟩
  have HC3 : Hid (u.size < 20 → p3 = 1 ∧ q3 = 5) := Lib.hid (fun hl20 => by
    have h5 := read_t3 u R (leafT 10 ⟨0, 0, 0, 0⟩ false) HU.out hl20
    rcases hc3 with ⟨_, _, h⟩ | ⟨_, _, _, hf, _⟩
    · rcases h with h | h | h
      · exact absurd (by rw [words_t3 u HU.out hl20]) h.1
      · exact ⟨h.2.2.1.trans h5.2, h.2.2.2.trans h5.1⟩
      · exact absurd (h5.1.symm.trans h.2.1) (by decide)
    · exact absurd (h5.1.symm.trans hf) (by decide))
  have honez := Tr.one z
  have hbz := hb.trans ((boxW_next w11 z).mono hb.size)
  have HY12 := Lib.hid (At.below HY10.out hbz HY10.out.lt)
  have HYN12 : Hid (∀ k', Tr.In w9 k' y → Tr.In (boxW w11 z) k' y) := Lib.hid (fun k' h => (HYN.out k' h).next hbz)
  have HX12 := Lib.hid (At.below HX10.out hbz HX10.out.lt)
  have HXI12 := Lib.hid (HXI10.out.next hbz)
  have HA12 := Lib.hid (At.below HA10.out hbz HA10.out.lt)
  have HB12 := Lib.hid (HB10.out.trans (hbz.mono HB10.out.size))
  have HI12 := Lib.hid (HI10.out.next hbz)
  clear P3 hc3 hb hbz
  go_upto_region 7 with (first | ((with_reducible show wpList _ _ _ ({ dst := none, op := .store 28 _ _, type := _, pos := _, after := _, guard := _ } :: _) _ _); (refine wpList_store_row rfl 28 _ _ rfl w11.heap.size z.cs.toArray rfl rfl 28 Tr.blank.cs.toArray (At.new _ _ _) (by kernel_rfl) rfl honez ?_); (first | change wpList _ _ _ _ _ (boxW w11 z) | change Exit.then _ _ _ _ (boxW w11 z))) | fail)
  clear honex honey honez
  generalize boxW w11 z = w13 at HY12 HYN12 HX12 HXI12 HA12 HB12 HI12 ⊢
  have HY13 := HY12
  have HYN13 := HYN12
  have HX13 := HX12
  have HXI13 := HXI12
  have HA13 := HA12
  have HB13 := HB12
  have HI13 := HI12
  clear HY12 HYN12 HX12 HXI12 HA12 HB12 HI12
  have HS13 : Hid (Tr.In w13 40 t) := Lib.hid (deep_in k 40 t HI13.out.1 (isFormed_deep HN.out))
  have HSAME : Hid (sameS 40 41 x t = true) := Lib.hid (by
    have hd : deepS 40 40 x ≤ 40 := by rw [deepS_congr 40 40 x t HXS.out]; exact isFormed_deep HFT.out.1
    exact sameS_strip 40 40 x t (by omega) HXS.out (by omega) hd w13 HXI13.out)
  by_cases hl20 : u.size < 20
  · obtain ⟨rfl, rfl⟩ := HC3.out hl20
    have hll : (u.size : Int) < 20 := by omega
    have hlb : decide ((u.size : Int) < 20) = true := decide_eq_true hll
    clear hl20
    by_cases hdp : 39 < deepS k 40 t
    · have hdb : decide (39 < deepS k 40 t) = true := decide_eq_true hdp
      go_wp2_with (first | ((with_reducible show wpList _ _ _ ({ dst := _, op := .load 28 (.tmp 2), type := _, pos := _, after := _, guard := _ } :: _) _ _); refine wpList_load_row_want (by rfl) 28 _ rfl w.heap.size rfl 28 t.cs.toArray (0, 0) _ HA13.out Try.underlying28 rfl (by kernel_rfl) ?_) | fail)
      refine (refDeep k 40 t w13 (by omega) (by omega) HI13.out.1).mono ?_
      rintro e w14 ⟨rfl, hb⟩
      have HA14 := Lib.hid (At.below HA13.out hb HA13.out.lt)
      have HX14 := Lib.hid (At.below HX13.out hb HX13.out.lt)
      have HY14 := Lib.hid (At.below HY13.out hb HY13.out.lt)
      have HXI14 := Lib.hid (HXI13.out.next hb)
      have HYN14 : Hid (∀ k', Tr.In w9 k' y → Tr.In w14 k' y) := Lib.hid (fun k' h => (HYN13.out k' h).next hb)
      have HB14 := Lib.hid (HB13.out.trans (hb.mono HB13.out.size))
      have HI14 := Lib.hid (HI13.out.next hb)
      have HS14 := Lib.hid (HS13.out.next hb)
      clear hb
      go_wp2_with (first | ((with_reducible show wpList _ _ _ ({ dst := _, op := .load 28 (.tmp 2), type := _, pos := _, after := _, guard := _ } :: _) _ _); refine wpList_load_row_want (by rfl) 28 _ rfl w.heap.size rfl 28 t.cs.toArray (0, 0) _ HA14.out Try.underlying28 rfl (by kernel_rfl) ?_) | ((with_reducible show wpList _ _ _ ({ dst := _, op := .load 28 (.tmp 6), type := _, pos := _, after := _, guard := _ } :: _) _ _); refine wpList_load_row_want (by rfl) 28 _ rfl w7.heap.size rfl 28 x.cs.toArray (0, 0) _ HX14.out Try.underlying28 rfl (by kernel_rfl) ?_) | fail)
      refine (refSame 40 41 x t w14 (by omega) (by omega) HXI14.out HS14.out).mono ?_
      rintro e w15 ⟨rfl, hb⟩
      have HA15 := Lib.hid (At.below HA14.out hb HA14.out.lt)
      have HX15 := Lib.hid (At.below HX14.out hb HX14.out.lt)
      have HY15 := Lib.hid (At.below HY14.out hb HY14.out.lt)
      have HXI15 := Lib.hid (HXI14.out.next hb)
      have HYN15 : Hid (∀ k', Tr.In w9 k' y → Tr.In w15 k' y) := Lib.hid (fun k' h => (HYN14.out k' h).next hb)
      have HB15 := Lib.hid (HB14.out.trans (hb.mono HB14.out.size))
      have HI15 := Lib.hid (HI14.out.next hb)
      have HS15 := Lib.hid (HS14.out.next hb)
      clear hb
      rw [HSAME.out]
      go_wp2_with fail
      go_ret
      exact ⟨rfl, HB15.out⟩
    · have hdb : decide (39 < deepS k 40 t) = false := decide_eq_false hdp
      go_wp2_with (first | ((with_reducible show wpList _ _ _ ({ dst := _, op := .load 28 (.tmp 2), type := _, pos := _, after := _, guard := _ } :: _) _ _); refine wpList_load_row_want (by rfl) 28 _ rfl w.heap.size rfl 28 t.cs.toArray (0, 0) _ HA13.out Try.underlying28 rfl (by kernel_rfl) ?_) | fail)
      refine (refDeep k 40 t w13 (by omega) (by omega) HI13.out.1).mono ?_
      rintro e w14 ⟨rfl, hb⟩
      have HA14 := Lib.hid (At.below HA13.out hb HA13.out.lt)
      have HX14 := Lib.hid (At.below HX13.out hb HX13.out.lt)
      have HY14 := Lib.hid (At.below HY13.out hb HY13.out.lt)
      have HXI14 := Lib.hid (HXI13.out.next hb)
      have HYN14 : Hid (∀ k', Tr.In w9 k' y → Tr.In w14 k' y) := Lib.hid (fun k' h => (HYN13.out k' h).next hb)
      have HB14 := Lib.hid (HB13.out.trans (hb.mono HB13.out.size))
      have HI14 := Lib.hid (HI13.out.next hb)
      have HS14 := Lib.hid (HS13.out.next hb)
      clear hb
      go_wp2_with (first | ((with_reducible show wpList _ _ _ ({ dst := _, op := .load 28 (.tmp 2), type := _, pos := _, after := _, guard := _ } :: _) _ _); refine wpList_load_row_want (by rfl) 28 _ rfl w.heap.size rfl 28 t.cs.toArray (0, 0) _ HA14.out Try.underlying28 rfl (by kernel_rfl) ?_) | fail)
      refine (refSize k t w14 HI14.out.1).mono ?_
      rintro e w15 ⟨rfl, hb⟩
      have HA15 := Lib.hid (At.below HA14.out hb HA14.out.lt)
      have HX15 := Lib.hid (At.below HX14.out hb HX14.out.lt)
      have HY15 := Lib.hid (At.below HY14.out hb HY14.out.lt)
      have HXI15 := Lib.hid (HXI14.out.next hb)
      have HYN15 : Hid (∀ k', Tr.In w9 k' y → Tr.In w15 k' y) := Lib.hid (fun k' h => (HYN14.out k' h).next hb)
      have HB15 := Lib.hid (HB14.out.trans (hb.mono HB14.out.size))
      have HI15 := Lib.hid (HI14.out.next hb)
      have HS15 := Lib.hid (HS14.out.next hb)
      clear hb
      by_cases hsp : 998 < sizeS k t
      · have hsb : decide (998 < sizeS k t) = true := decide_eq_true hsp
        go_wp2_with (first | ((with_reducible show wpList _ _ _ ({ dst := _, op := .load 28 (.tmp 2), type := _, pos := _, after := _, guard := _ } :: _) _ _); refine wpList_load_row_want (by rfl) 28 _ rfl w.heap.size rfl 28 t.cs.toArray (0, 0) _ HA15.out Try.underlying28 rfl (by kernel_rfl) ?_) | ((with_reducible show wpList _ _ _ ({ dst := _, op := .load 28 (.tmp 6), type := _, pos := _, after := _, guard := _ } :: _) _ _); refine wpList_load_row_want (by rfl) 28 _ rfl w7.heap.size rfl 28 x.cs.toArray (0, 0) _ HX15.out Try.underlying28 rfl (by kernel_rfl) ?_) | fail)
        refine (refSame 40 41 x t w15 (by omega) (by omega) HXI15.out HS15.out).mono ?_
        rintro e w16 ⟨rfl, hb⟩
        have HA16 := Lib.hid (At.below HA15.out hb HA15.out.lt)
        have HX16 := Lib.hid (At.below HX15.out hb HX15.out.lt)
        have HY16 := Lib.hid (At.below HY15.out hb HY15.out.lt)
        have HXI16 := Lib.hid (HXI15.out.next hb)
        have HYN16 : Hid (∀ k', Tr.In w9 k' y → Tr.In w16 k' y) := Lib.hid (fun k' h => (HYN15.out k' h).next hb)
        have HB16 := Lib.hid (HB15.out.trans (hb.mono HB15.out.size))
        have HI16 := Lib.hid (HI15.out.next hb)
        have HS16 := Lib.hid (HS15.out.next hb)
        clear hb
        rw [HSAME.out]
        go_wp2_with fail
        go_ret
        exact ⟨rfl, HB16.out⟩
      · have hsb : decide (998 < sizeS k t) = false := decide_eq_false hsp
        have hF := or_formed HLV.out HN.out (by omega) (by omega)
        rw [HR.out] at hF
        obtain ⟨hq2, hy1, hy2⟩ := HC2.out hF
        subst hq2
        have e4 : y.kind = 4 ∧ y.parts.length = 2 ∧ y.parts.map (Tr.strip 39) = [R, leafT 2 (St.zero.put 97) false].map (Tr.strip 39) := by
          have h := strip_parts (k := 39) hy2
          exact ⟨h.1, h.2.2.2.2.2.1, h.2.2.2.2.2.2⟩
        obtain ⟨ek, el, em⟩ := e4
        have hyn : y.n = 2 := by rw [hy1.2.1.1, el]
        have hyin := HYN15.out 40 hy1
        obtain ⟨b, off, ea, hbl, hrr⟩ := hyin.2.2.1 (by rw [hyn]; omega)
        have hpin := hyin.2.2.2 0 (by omega)
        have hrp := hrr 0 (by omega)
        obtain ⟨y0, hy0⟩ : ∃ y0, y.parts[0]'(by omega) = y0 := ⟨_, rfl⟩
        have hst0 : y0.strip 39 = t.strip 39 := by
          have h1 := strip_at (k := 39) (j := 0) (a := y) (b := nodeT 4 [R, leafT 2 (St.zero.put 97) false] 0 0 false) em (by omega) (by show 0 < 2; omega)
          rw [hy0] at h1
          have h2 : y0.strip 39 = R.strip 39 := h1
          have h3 := strip_down 39 1 R
          have h4 := strip_down 39 1 t
          rw [h2, ← h3, ← h4, HFT.out.2.2]
        rw [hy0] at hpin hrp
        rw [Nat.zero_mul, Nat.add_zero] at hrp
        have ht39 : Tr.In w15 39 t := deep_in k 39 t HI15.out.1 (deep_less k 39 t (by omega) (by rw [show (39 : Int) + 1 = 40 from rfl]; omega))
        have hsame2 : sameS 39 41 y0 t = true := by
          have hd39 : deepS 39 40 t ≤ 40 := by
            have h := isFormed_deep HFT.out.1
            rw [deepS_lv 39 40 t ht39.lv] at h
            exact h
          exact sameS_strip 39 40 y0 t (by omega) hst0 (by omega) (by rw [deepS_congr 39 40 y0 t hst0]; exact hd39) w15 hpin
        have hs1 : Calls Try.prog 11 #[.agg #[.int .i64 x.kind, .int .u64 x.set.w0, .int .u64 x.set.w1, .int .u64 x.set.w2, .int .u64 x.set.w3, .slice x.addr x.n x.cap, .int .i64 x.lo, .int .i64 x.hi, .bool x.neg], .agg #[.int .i64 t.kind, .int .u64 t.set.w0, .int .u64 t.set.w1, .int .u64 t.set.w2, .int .u64 t.set.w3, .slice t.addr t.n t.cap, .int .i64 t.lo, .int .i64 t.hi, .bool t.neg], .int .i64 41] w15.drew (fun e w' => e = .returned (.bool true) ∧ Below w15.heap.size w15.drew w') := by
          have h := refSame 40 41 x t w15.drew (by omega) (by omega) HXI15.out.drew HS15.out.drew
          rw [HSAME.out] at h
          exact h
        have HS2 : Hid (∀ W, Below w15.heap.size w15 W → Calls Try.prog 11 #[.agg #[.int .i64 y0.kind, .int .u64 y0.set.w0, .int .u64 y0.set.w1, .int .u64 y0.set.w2, .int .u64 y0.set.w3, .slice y0.addr y0.n y0.cap, .int .i64 y0.lo, .int .i64 y0.hi, .bool y0.neg], .agg #[.int .i64 t.kind, .int .u64 t.set.w0, .int .u64 t.set.w1, .int .u64 t.set.w2, .int .u64 t.set.w3, .slice t.addr t.n t.cap, .int .i64 t.lo, .int .i64 t.hi, .bool t.neg], .int .i64 41] W (fun e w' => e = .returned (.bool true) ∧ Below W.heap.size W w')) := Lib.hid (fun W hW => by
          have h := refSame 39 41 y0 t W (by omega) (by omega) (hpin.next hW) (ht39.next hW)
          rw [hsame2] at h
          exact h)
        obtain ⟨x0, x1, x2, x3, x4, x5, x6, x7, x8⟩ := At.tr_cells HX15.out
        obtain ⟨r0, r1, r2, r3, r4, r5, r6, r7, r8⟩ := At.tr_cells HA15.out
        have HSALL : Hid (∀ w', Below w15.heap.size w15 w' → w'.cell? ⟨w7.heap.size, 0, none⟩ = some (.int .i64 x.kind) ∧ w'.cell? ⟨w7.heap.size, 1, none⟩ = some (.int .u64 x.set.w0) ∧ w'.cell? ⟨w7.heap.size, 2, none⟩ = some (.int .u64 x.set.w1) ∧ w'.cell? ⟨w7.heap.size, 3, none⟩ = some (.int .u64 x.set.w2) ∧ w'.cell? ⟨w7.heap.size, 4, none⟩ = some (.int .u64 x.set.w3) ∧ w'.cell? ⟨w7.heap.size, 5, none⟩ = some (.slice x.addr x.n x.cap) ∧ w'.cell? ⟨w7.heap.size, 6, none⟩ = some (.int .i64 x.lo) ∧ w'.cell? ⟨w7.heap.size, 7, none⟩ = some (.int .i64 x.hi) ∧ w'.cell? ⟨w7.heap.size, 8, none⟩ = some (.bool x.neg) ∧ w'.cell? ⟨w.heap.size, 0, none⟩ = some (.int .i64 t.kind) ∧ w'.cell? ⟨w.heap.size, 1, none⟩ = some (.int .u64 t.set.w0) ∧ w'.cell? ⟨w.heap.size, 2, none⟩ = some (.int .u64 t.set.w1) ∧ w'.cell? ⟨w.heap.size, 3, none⟩ = some (.int .u64 t.set.w2) ∧ w'.cell? ⟨w.heap.size, 4, none⟩ = some (.int .u64 t.set.w3) ∧ w'.cell? ⟨w.heap.size, 5, none⟩ = some (.slice t.addr t.n t.cap) ∧ w'.cell? ⟨w.heap.size, 6, none⟩ = some (.int .i64 t.lo) ∧ w'.cell? ⟨w.heap.size, 7, none⟩ = some (.int .i64 t.hi) ∧ w'.cell? ⟨w.heap.size, 8, none⟩ = some (.bool t.neg) ∧ w'.cell? ⟨w9.heap.size, 0, none⟩ = some (.int .i64 4) ∧ w'.cell? ⟨w9.heap.size, 5, none⟩ = some (.slice (some ⟨b, off, none⟩) 2 y.cap) ∧ w'.cell? ⟨b, off, none⟩ = some (.int .i64 y0.kind) ∧ w'.cell? ⟨b, off + 1, none⟩ = some (.int .u64 y0.set.w0) ∧ w'.cell? ⟨b, off + 2, none⟩ = some (.int .u64 y0.set.w1) ∧ w'.cell? ⟨b, off + 3, none⟩ = some (.int .u64 y0.set.w2) ∧ w'.cell? ⟨b, off + 4, none⟩ = some (.int .u64 y0.set.w3) ∧ w'.cell? ⟨b, off + 5, none⟩ = some (.slice y0.addr y0.n y0.cap) ∧ w'.cell? ⟨b, off + 6, none⟩ = some (.int .i64 y0.lo) ∧ w'.cell? ⟨b, off + 7, none⟩ = some (.int .i64 y0.hi) ∧ w'.cell? ⟨b, off + 8, none⟩ = some (.bool y0.neg)) := Lib.hid (fun W hW => by
          have hx := At.tr_cells (At.below HX15.out hW HX15.out.lt)
          have ht := At.tr_cells (At.below HA15.out hW HA15.out.lt)
          have h := At.below HY15.out hW HY15.out.lt
          have c0 := h.cell 0
          have c5 := h.cell 5
          rw [show y.cs.toArray[0]? = some (.int .i64 y.kind) from rfl, ek] at c0
          rw [show y.cs.toArray[5]? = some (.slice y.addr y.n y.cap) from rfl, ea, hyn] at c5
          have hp := range_below hrp hbl (Nat.le_refl _) hW
          exact ⟨hx.1, hx.2.1, hx.2.2.1, hx.2.2.2.1, hx.2.2.2.2.1, hx.2.2.2.2.2.1, hx.2.2.2.2.2.2.1, hx.2.2.2.2.2.2.2.1, hx.2.2.2.2.2.2.2.2, ht.1, ht.2.1, ht.2.2.1, ht.2.2.2.1, ht.2.2.2.2.1, ht.2.2.2.2.2.1, ht.2.2.2.2.2.2.1, ht.2.2.2.2.2.2.2.1, ht.2.2.2.2.2.2.2.2, c0, c5, hp 0 _ rfl, hp 1 _ rfl, hp 2 _ rfl, hp 3 _ rfl, hp 4 _ rfl, hp 5 _ rfl, hp 6 _ rfl, hp 7 _ rfl, hp 8 _ rfl⟩)
        have hS15 := HSALL.out w15 (Below.refl _ _)
        have HS1 := Lib.hid hs1
        clear hs1 x0 x1 x2 x3 x4 x5 x6 x7 x8 r0 r1 r2 r3 r4 r5 r6 r7 r8
        clear ek el em hyn hyin ea hbl hrr hpin hrp hy0 hst0 ht39 hsame2 hy1 hy2 hF
        obtain ⟨a0, a1, a2, a3, a4, a5, a6, a7, a8, b0, b1, b2, b3, b4, b5, b6, b7, b8, c0, c5, d0, d1, d2, d3, d4, d5, d6, d7, d8⟩ := hS15
        go_wp2_with fail
        clear HMS HA2 HB2 HI2 HA3 HB3 HI3 HA4 HB4 HI4 HA6 HB6 HI6 HD6 HW6 HLV HMR HFR HMA HZ HX8 HXI8 HXS HA8 HD8 HB8 HI8 HC2 HY10 HYN HX10 HXI10 HA10 HD10 HB10 HI10 HC3 HYN13 HXI13 HX13 HY13 HA13 HB13 HI13 HS13 HYN14 HXI14 HX14 HY14 HA14 HB14 HI14 HS14 HYN15 HXI15 HX15 HY15 HA15 HI15 HS15 HSAME HFT HR HST HN HU hll hlb hdb hsb hdp hsp hsz hd HA1 HB1 HI1 HW1
        go_region_held3 (fun w' => w'.cell? ⟨w7.heap.size, 0, none⟩ = some (.int .i64 x.kind) ∧ w'.cell? ⟨w7.heap.size, 1, none⟩ = some (.int .u64 x.set.w0) ∧ w'.cell? ⟨w7.heap.size, 2, none⟩ = some (.int .u64 x.set.w1) ∧ w'.cell? ⟨w7.heap.size, 3, none⟩ = some (.int .u64 x.set.w2) ∧ w'.cell? ⟨w7.heap.size, 4, none⟩ = some (.int .u64 x.set.w3) ∧ w'.cell? ⟨w7.heap.size, 5, none⟩ = some (.slice x.addr x.n x.cap) ∧ w'.cell? ⟨w7.heap.size, 6, none⟩ = some (.int .i64 x.lo) ∧ w'.cell? ⟨w7.heap.size, 7, none⟩ = some (.int .i64 x.hi) ∧ w'.cell? ⟨w7.heap.size, 8, none⟩ = some (.bool x.neg) ∧ w'.cell? ⟨w.heap.size, 0, none⟩ = some (.int .i64 t.kind) ∧ w'.cell? ⟨w.heap.size, 1, none⟩ = some (.int .u64 t.set.w0) ∧ w'.cell? ⟨w.heap.size, 2, none⟩ = some (.int .u64 t.set.w1) ∧ w'.cell? ⟨w.heap.size, 3, none⟩ = some (.int .u64 t.set.w2) ∧ w'.cell? ⟨w.heap.size, 4, none⟩ = some (.int .u64 t.set.w3) ∧ w'.cell? ⟨w.heap.size, 5, none⟩ = some (.slice t.addr t.n t.cap) ∧ w'.cell? ⟨w.heap.size, 6, none⟩ = some (.int .i64 t.lo) ∧ w'.cell? ⟨w.heap.size, 7, none⟩ = some (.int .i64 t.hi) ∧ w'.cell? ⟨w.heap.size, 8, none⟩ = some (.bool t.neg) ∧ w'.cell? ⟨w9.heap.size, 0, none⟩ = some (.int .i64 4) ∧ w'.cell? ⟨w9.heap.size, 5, none⟩ = some (.slice (some ⟨b, off, none⟩) 2 y.cap) ∧ w'.cell? ⟨b, off, none⟩ = some (.int .i64 y0.kind) ∧ w'.cell? ⟨b, off + 1, none⟩ = some (.int .u64 y0.set.w0) ∧ w'.cell? ⟨b, off + 2, none⟩ = some (.int .u64 y0.set.w1) ∧ w'.cell? ⟨b, off + 3, none⟩ = some (.int .u64 y0.set.w2) ∧ w'.cell? ⟨b, off + 4, none⟩ = some (.int .u64 y0.set.w3) ∧ w'.cell? ⟨b, off + 5, none⟩ = some (.slice y0.addr y0.n y0.cap) ∧ w'.cell? ⟨b, off + 6, none⟩ = some (.int .i64 y0.lo) ∧ w'.cell? ⟨b, off + 7, none⟩ = some (.int .i64 y0.hi) ∧ w'.cell? ⟨b, off + 8, none⟩ = some (.bool y0.neg))
          (first | go_keep | exact hS16 | exact hS17 | fail)
          (first
            | (go_at_call 11
               (with_reducible refine (HS1.out).mono ?_)
               rintro e w16 ⟨rfl, hb16⟩
               have hb16 := ((Below.refl w15.heap.size w15).drew).trans hb16
               have HB16 := Lib.hid (HB15.out.trans (hb16.mono HB15.out.size))
               have hS16 := HSALL.out w16 hb16
               have HBC16 := Lib.hid hb16
               have HS2c := Lib.hid (HS2.out w16 hb16)
               clear hb16 a0 a1 a2 a3 a4 a5 a6 a7 a8 b0 b1 b2 b3 b4 b5 b6 b7 b8 c0 c5 d0 d1 d2 d3 d4 d5 d6 d7 d8)
            | (go_at_call 11
               (with_reducible refine (HS2c.out).mono ?_)
               rintro e w17 ⟨rfl, hb17⟩
               have HB17 := Lib.hid (HB16.out.trans (hb17.mono HB16.out.size))
               have hS17 := HSALL.out w17 (HBC16.out.trans (hb17.mono HBC16.out.size))))
        all_goals go_wp2_with fail
        all_goals go_ret
        all_goals exact ⟨rfl, HB17.out⟩
  · have hll : ¬ (u.size : Int) < 20 := by omega
    have hlb : decide ((u.size : Int) < 20) = false := decide_eq_false hll
    clear hl20
    by_cases hdp : 39 < deepS k 40 t
    · have hdb : decide (39 < deepS k 40 t) = true := decide_eq_true hdp
      go_wp2_with (first | ((with_reducible show wpList _ _ _ ({ dst := _, op := .load 28 (.tmp 2), type := _, pos := _, after := _, guard := _ } :: _) _ _); refine wpList_load_row_want (by rfl) 28 _ rfl w.heap.size rfl 28 t.cs.toArray (0, 0) _ HA13.out Try.underlying28 rfl (by kernel_rfl) ?_) | fail)
      refine (refDeep k 40 t w13 (by omega) (by omega) HI13.out.1).mono ?_
      rintro e w14 ⟨rfl, hb⟩
      have HA14 := Lib.hid (At.below HA13.out hb HA13.out.lt)
      have HX14 := Lib.hid (At.below HX13.out hb HX13.out.lt)
      have HY14 := Lib.hid (At.below HY13.out hb HY13.out.lt)
      have HXI14 := Lib.hid (HXI13.out.next hb)
      have HYN14 : Hid (∀ k', Tr.In w9 k' y → Tr.In w14 k' y) := Lib.hid (fun k' h => (HYN13.out k' h).next hb)
      have HB14 := Lib.hid (HB13.out.trans (hb.mono HB13.out.size))
      have HI14 := Lib.hid (HI13.out.next hb)
      have HS14 := Lib.hid (HS13.out.next hb)
      clear hb
      go_wp2_with (first | ((with_reducible show wpList _ _ _ ({ dst := _, op := .load 28 (.tmp 2), type := _, pos := _, after := _, guard := _ } :: _) _ _); refine wpList_load_row_want (by rfl) 28 _ rfl w.heap.size rfl 28 t.cs.toArray (0, 0) _ HA14.out Try.underlying28 rfl (by kernel_rfl) ?_) | ((with_reducible show wpList _ _ _ ({ dst := _, op := .load 28 (.tmp 6), type := _, pos := _, after := _, guard := _ } :: _) _ _); refine wpList_load_row_want (by rfl) 28 _ rfl w7.heap.size rfl 28 x.cs.toArray (0, 0) _ HX14.out Try.underlying28 rfl (by kernel_rfl) ?_) | fail)
      refine (refSame 40 41 x t w14 (by omega) (by omega) HXI14.out HS14.out).mono ?_
      rintro e w15 ⟨rfl, hb⟩
      have HA15 := Lib.hid (At.below HA14.out hb HA14.out.lt)
      have HX15 := Lib.hid (At.below HX14.out hb HX14.out.lt)
      have HY15 := Lib.hid (At.below HY14.out hb HY14.out.lt)
      have HXI15 := Lib.hid (HXI14.out.next hb)
      have HYN15 : Hid (∀ k', Tr.In w9 k' y → Tr.In w15 k' y) := Lib.hid (fun k' h => (HYN14.out k' h).next hb)
      have HB15 := Lib.hid (HB14.out.trans (hb.mono HB14.out.size))
      have HI15 := Lib.hid (HI14.out.next hb)
      have HS15 := Lib.hid (HS14.out.next hb)
      clear hb
      rw [HSAME.out]
      go_wp2_with fail
      go_ret
      exact ⟨rfl, HB15.out⟩
    · have hdb : decide (39 < deepS k 40 t) = false := decide_eq_false hdp
      go_wp2_with (first | ((with_reducible show wpList _ _ _ ({ dst := _, op := .load 28 (.tmp 2), type := _, pos := _, after := _, guard := _ } :: _) _ _); refine wpList_load_row_want (by rfl) 28 _ rfl w.heap.size rfl 28 t.cs.toArray (0, 0) _ HA13.out Try.underlying28 rfl (by kernel_rfl) ?_) | fail)
      refine (refDeep k 40 t w13 (by omega) (by omega) HI13.out.1).mono ?_
      rintro e w14 ⟨rfl, hb⟩
      have HA14 := Lib.hid (At.below HA13.out hb HA13.out.lt)
      have HX14 := Lib.hid (At.below HX13.out hb HX13.out.lt)
      have HY14 := Lib.hid (At.below HY13.out hb HY13.out.lt)
      have HXI14 := Lib.hid (HXI13.out.next hb)
      have HYN14 : Hid (∀ k', Tr.In w9 k' y → Tr.In w14 k' y) := Lib.hid (fun k' h => (HYN13.out k' h).next hb)
      have HB14 := Lib.hid (HB13.out.trans (hb.mono HB13.out.size))
      have HI14 := Lib.hid (HI13.out.next hb)
      have HS14 := Lib.hid (HS13.out.next hb)
      clear hb
      go_wp2_with (first | ((with_reducible show wpList _ _ _ ({ dst := _, op := .load 28 (.tmp 2), type := _, pos := _, after := _, guard := _ } :: _) _ _); refine wpList_load_row_want (by rfl) 28 _ rfl w.heap.size rfl 28 t.cs.toArray (0, 0) _ HA14.out Try.underlying28 rfl (by kernel_rfl) ?_) | fail)
      refine (refSize k t w14 HI14.out.1).mono ?_
      rintro e w15 ⟨rfl, hb⟩
      have HA15 := Lib.hid (At.below HA14.out hb HA14.out.lt)
      have HX15 := Lib.hid (At.below HX14.out hb HX14.out.lt)
      have HY15 := Lib.hid (At.below HY14.out hb HY14.out.lt)
      have HXI15 := Lib.hid (HXI14.out.next hb)
      have HYN15 : Hid (∀ k', Tr.In w9 k' y → Tr.In w15 k' y) := Lib.hid (fun k' h => (HYN14.out k' h).next hb)
      have HB15 := Lib.hid (HB14.out.trans (hb.mono HB14.out.size))
      have HI15 := Lib.hid (HI14.out.next hb)
      have HS15 := Lib.hid (HS14.out.next hb)
      clear hb
      by_cases hsp : 998 < sizeS k t
      · have hsb : decide (998 < sizeS k t) = true := decide_eq_true hsp
        go_wp2_with (first | ((with_reducible show wpList _ _ _ ({ dst := _, op := .load 28 (.tmp 2), type := _, pos := _, after := _, guard := _ } :: _) _ _); refine wpList_load_row_want (by rfl) 28 _ rfl w.heap.size rfl 28 t.cs.toArray (0, 0) _ HA15.out Try.underlying28 rfl (by kernel_rfl) ?_) | ((with_reducible show wpList _ _ _ ({ dst := _, op := .load 28 (.tmp 6), type := _, pos := _, after := _, guard := _ } :: _) _ _); refine wpList_load_row_want (by rfl) 28 _ rfl w7.heap.size rfl 28 x.cs.toArray (0, 0) _ HX15.out Try.underlying28 rfl (by kernel_rfl) ?_) | fail)
        refine (refSame 40 41 x t w15 (by omega) (by omega) HXI15.out HS15.out).mono ?_
        rintro e w16 ⟨rfl, hb⟩
        have HA16 := Lib.hid (At.below HA15.out hb HA15.out.lt)
        have HX16 := Lib.hid (At.below HX15.out hb HX15.out.lt)
        have HY16 := Lib.hid (At.below HY15.out hb HY15.out.lt)
        have HXI16 := Lib.hid (HXI15.out.next hb)
        have HYN16 : Hid (∀ k', Tr.In w9 k' y → Tr.In w16 k' y) := Lib.hid (fun k' h => (HYN15.out k' h).next hb)
        have HB16 := Lib.hid (HB15.out.trans (hb.mono HB15.out.size))
        have HI16 := Lib.hid (HI15.out.next hb)
        have HS16 := Lib.hid (HS15.out.next hb)
        clear hb
        rw [HSAME.out]
        go_wp2_with fail
        go_ret
        exact ⟨rfl, HB16.out⟩
      · have hsb : decide (998 < sizeS k t) = false := decide_eq_false hsp
        have hF := or_formed HLV.out HN.out (by omega) (by omega)
        rw [HR.out] at hF
        obtain ⟨hq2, hy1, hy2⟩ := HC2.out hF
        subst hq2
        have e4 : y.kind = 4 ∧ y.parts.length = 2 ∧ y.parts.map (Tr.strip 39) = [R, leafT 2 (St.zero.put 97) false].map (Tr.strip 39) := by
          have h := strip_parts (k := 39) hy2
          exact ⟨h.1, h.2.2.2.2.2.1, h.2.2.2.2.2.2⟩
        obtain ⟨ek, el, em⟩ := e4
        have hyn : y.n = 2 := by rw [hy1.2.1.1, el]
        have hyin := HYN15.out 40 hy1
        obtain ⟨b, off, ea, hbl, hrr⟩ := hyin.2.2.1 (by rw [hyn]; omega)
        have hpin := hyin.2.2.2 0 (by omega)
        have hrp := hrr 0 (by omega)
        obtain ⟨y0, hy0⟩ : ∃ y0, y.parts[0]'(by omega) = y0 := ⟨_, rfl⟩
        have hst0 : y0.strip 39 = t.strip 39 := by
          have h1 := strip_at (k := 39) (j := 0) (a := y) (b := nodeT 4 [R, leafT 2 (St.zero.put 97) false] 0 0 false) em (by omega) (by show 0 < 2; omega)
          rw [hy0] at h1
          have h2 : y0.strip 39 = R.strip 39 := h1
          have h3 := strip_down 39 1 R
          have h4 := strip_down 39 1 t
          rw [h2, ← h3, ← h4, HFT.out.2.2]
        rw [hy0] at hpin hrp
        rw [Nat.zero_mul, Nat.add_zero] at hrp
        have ht39 : Tr.In w15 39 t := deep_in k 39 t HI15.out.1 (deep_less k 39 t (by omega) (by rw [show (39 : Int) + 1 = 40 from rfl]; omega))
        have hsame2 : sameS 39 41 y0 t = true := by
          have hd39 : deepS 39 40 t ≤ 40 := by
            have h := isFormed_deep HFT.out.1
            rw [deepS_lv 39 40 t ht39.lv] at h
            exact h
          exact sameS_strip 39 40 y0 t (by omega) hst0 (by omega) (by rw [deepS_congr 39 40 y0 t hst0]; exact hd39) w15 hpin
        have hs1 : Calls Try.prog 11 #[.agg #[.int .i64 x.kind, .int .u64 x.set.w0, .int .u64 x.set.w1, .int .u64 x.set.w2, .int .u64 x.set.w3, .slice x.addr x.n x.cap, .int .i64 x.lo, .int .i64 x.hi, .bool x.neg], .agg #[.int .i64 t.kind, .int .u64 t.set.w0, .int .u64 t.set.w1, .int .u64 t.set.w2, .int .u64 t.set.w3, .slice t.addr t.n t.cap, .int .i64 t.lo, .int .i64 t.hi, .bool t.neg], .int .i64 41] w15.drew (fun e w' => e = .returned (.bool true) ∧ Below w15.heap.size w15.drew w') := by
          have h := refSame 40 41 x t w15.drew (by omega) (by omega) HXI15.out.drew HS15.out.drew
          rw [HSAME.out] at h
          exact h
        have HS2 : Hid (∀ W, Below w15.heap.size w15 W → Calls Try.prog 11 #[.agg #[.int .i64 y0.kind, .int .u64 y0.set.w0, .int .u64 y0.set.w1, .int .u64 y0.set.w2, .int .u64 y0.set.w3, .slice y0.addr y0.n y0.cap, .int .i64 y0.lo, .int .i64 y0.hi, .bool y0.neg], .agg #[.int .i64 t.kind, .int .u64 t.set.w0, .int .u64 t.set.w1, .int .u64 t.set.w2, .int .u64 t.set.w3, .slice t.addr t.n t.cap, .int .i64 t.lo, .int .i64 t.hi, .bool t.neg], .int .i64 41] W (fun e w' => e = .returned (.bool true) ∧ Below W.heap.size W w')) := Lib.hid (fun W hW => by
          have h := refSame 39 41 y0 t W (by omega) (by omega) (hpin.next hW) (ht39.next hW)
          rw [hsame2] at h
          exact h)
        obtain ⟨x0, x1, x2, x3, x4, x5, x6, x7, x8⟩ := At.tr_cells HX15.out
        obtain ⟨r0, r1, r2, r3, r4, r5, r6, r7, r8⟩ := At.tr_cells HA15.out
        have HSALL : Hid (∀ w', Below w15.heap.size w15 w' → w'.cell? ⟨w7.heap.size, 0, none⟩ = some (.int .i64 x.kind) ∧ w'.cell? ⟨w7.heap.size, 1, none⟩ = some (.int .u64 x.set.w0) ∧ w'.cell? ⟨w7.heap.size, 2, none⟩ = some (.int .u64 x.set.w1) ∧ w'.cell? ⟨w7.heap.size, 3, none⟩ = some (.int .u64 x.set.w2) ∧ w'.cell? ⟨w7.heap.size, 4, none⟩ = some (.int .u64 x.set.w3) ∧ w'.cell? ⟨w7.heap.size, 5, none⟩ = some (.slice x.addr x.n x.cap) ∧ w'.cell? ⟨w7.heap.size, 6, none⟩ = some (.int .i64 x.lo) ∧ w'.cell? ⟨w7.heap.size, 7, none⟩ = some (.int .i64 x.hi) ∧ w'.cell? ⟨w7.heap.size, 8, none⟩ = some (.bool x.neg) ∧ w'.cell? ⟨w.heap.size, 0, none⟩ = some (.int .i64 t.kind) ∧ w'.cell? ⟨w.heap.size, 1, none⟩ = some (.int .u64 t.set.w0) ∧ w'.cell? ⟨w.heap.size, 2, none⟩ = some (.int .u64 t.set.w1) ∧ w'.cell? ⟨w.heap.size, 3, none⟩ = some (.int .u64 t.set.w2) ∧ w'.cell? ⟨w.heap.size, 4, none⟩ = some (.int .u64 t.set.w3) ∧ w'.cell? ⟨w.heap.size, 5, none⟩ = some (.slice t.addr t.n t.cap) ∧ w'.cell? ⟨w.heap.size, 6, none⟩ = some (.int .i64 t.lo) ∧ w'.cell? ⟨w.heap.size, 7, none⟩ = some (.int .i64 t.hi) ∧ w'.cell? ⟨w.heap.size, 8, none⟩ = some (.bool t.neg) ∧ w'.cell? ⟨w9.heap.size, 0, none⟩ = some (.int .i64 4) ∧ w'.cell? ⟨w9.heap.size, 5, none⟩ = some (.slice (some ⟨b, off, none⟩) 2 y.cap) ∧ w'.cell? ⟨b, off, none⟩ = some (.int .i64 y0.kind) ∧ w'.cell? ⟨b, off + 1, none⟩ = some (.int .u64 y0.set.w0) ∧ w'.cell? ⟨b, off + 2, none⟩ = some (.int .u64 y0.set.w1) ∧ w'.cell? ⟨b, off + 3, none⟩ = some (.int .u64 y0.set.w2) ∧ w'.cell? ⟨b, off + 4, none⟩ = some (.int .u64 y0.set.w3) ∧ w'.cell? ⟨b, off + 5, none⟩ = some (.slice y0.addr y0.n y0.cap) ∧ w'.cell? ⟨b, off + 6, none⟩ = some (.int .i64 y0.lo) ∧ w'.cell? ⟨b, off + 7, none⟩ = some (.int .i64 y0.hi) ∧ w'.cell? ⟨b, off + 8, none⟩ = some (.bool y0.neg)) := Lib.hid (fun W hW => by
          have hx := At.tr_cells (At.below HX15.out hW HX15.out.lt)
          have ht := At.tr_cells (At.below HA15.out hW HA15.out.lt)
          have h := At.below HY15.out hW HY15.out.lt
          have c0 := h.cell 0
          have c5 := h.cell 5
          rw [show y.cs.toArray[0]? = some (.int .i64 y.kind) from rfl, ek] at c0
          rw [show y.cs.toArray[5]? = some (.slice y.addr y.n y.cap) from rfl, ea, hyn] at c5
          have hp := range_below hrp hbl (Nat.le_refl _) hW
          exact ⟨hx.1, hx.2.1, hx.2.2.1, hx.2.2.2.1, hx.2.2.2.2.1, hx.2.2.2.2.2.1, hx.2.2.2.2.2.2.1, hx.2.2.2.2.2.2.2.1, hx.2.2.2.2.2.2.2.2, ht.1, ht.2.1, ht.2.2.1, ht.2.2.2.1, ht.2.2.2.2.1, ht.2.2.2.2.2.1, ht.2.2.2.2.2.2.1, ht.2.2.2.2.2.2.2.1, ht.2.2.2.2.2.2.2.2, c0, c5, hp 0 _ rfl, hp 1 _ rfl, hp 2 _ rfl, hp 3 _ rfl, hp 4 _ rfl, hp 5 _ rfl, hp 6 _ rfl, hp 7 _ rfl, hp 8 _ rfl⟩)
        have hS15 := HSALL.out w15 (Below.refl _ _)
        have HS1 := Lib.hid hs1
        clear hs1 x0 x1 x2 x3 x4 x5 x6 x7 x8 r0 r1 r2 r3 r4 r5 r6 r7 r8
        clear ek el em hyn hyin ea hbl hrr hpin hrp hy0 hst0 ht39 hsame2 hy1 hy2 hF
        obtain ⟨a0, a1, a2, a3, a4, a5, a6, a7, a8, b0, b1, b2, b3, b4, b5, b6, b7, b8, c0, c5, d0, d1, d2, d3, d4, d5, d6, d7, d8⟩ := hS15
        go_wp2_with fail
        clear HMS HA2 HB2 HI2 HA3 HB3 HI3 HA4 HB4 HI4 HA6 HB6 HI6 HD6 HW6 HLV HMR HFR HMA HZ HX8 HXI8 HXS HA8 HD8 HB8 HI8 HC2 HY10 HYN HX10 HXI10 HA10 HD10 HB10 HI10 HC3 HYN13 HXI13 HX13 HY13 HA13 HB13 HI13 HS13 HYN14 HXI14 HX14 HY14 HA14 HB14 HI14 HS14 HYN15 HXI15 HX15 HY15 HA15 HI15 HS15 HSAME HFT HR HST HN HU hll hlb hdb hsb hdp hsp hsz hd HA1 HB1 HI1 HW1
        go_region_held3 (fun w' => w'.cell? ⟨w7.heap.size, 0, none⟩ = some (.int .i64 x.kind) ∧ w'.cell? ⟨w7.heap.size, 1, none⟩ = some (.int .u64 x.set.w0) ∧ w'.cell? ⟨w7.heap.size, 2, none⟩ = some (.int .u64 x.set.w1) ∧ w'.cell? ⟨w7.heap.size, 3, none⟩ = some (.int .u64 x.set.w2) ∧ w'.cell? ⟨w7.heap.size, 4, none⟩ = some (.int .u64 x.set.w3) ∧ w'.cell? ⟨w7.heap.size, 5, none⟩ = some (.slice x.addr x.n x.cap) ∧ w'.cell? ⟨w7.heap.size, 6, none⟩ = some (.int .i64 x.lo) ∧ w'.cell? ⟨w7.heap.size, 7, none⟩ = some (.int .i64 x.hi) ∧ w'.cell? ⟨w7.heap.size, 8, none⟩ = some (.bool x.neg) ∧ w'.cell? ⟨w.heap.size, 0, none⟩ = some (.int .i64 t.kind) ∧ w'.cell? ⟨w.heap.size, 1, none⟩ = some (.int .u64 t.set.w0) ∧ w'.cell? ⟨w.heap.size, 2, none⟩ = some (.int .u64 t.set.w1) ∧ w'.cell? ⟨w.heap.size, 3, none⟩ = some (.int .u64 t.set.w2) ∧ w'.cell? ⟨w.heap.size, 4, none⟩ = some (.int .u64 t.set.w3) ∧ w'.cell? ⟨w.heap.size, 5, none⟩ = some (.slice t.addr t.n t.cap) ∧ w'.cell? ⟨w.heap.size, 6, none⟩ = some (.int .i64 t.lo) ∧ w'.cell? ⟨w.heap.size, 7, none⟩ = some (.int .i64 t.hi) ∧ w'.cell? ⟨w.heap.size, 8, none⟩ = some (.bool t.neg) ∧ w'.cell? ⟨w9.heap.size, 0, none⟩ = some (.int .i64 4) ∧ w'.cell? ⟨w9.heap.size, 5, none⟩ = some (.slice (some ⟨b, off, none⟩) 2 y.cap) ∧ w'.cell? ⟨b, off, none⟩ = some (.int .i64 y0.kind) ∧ w'.cell? ⟨b, off + 1, none⟩ = some (.int .u64 y0.set.w0) ∧ w'.cell? ⟨b, off + 2, none⟩ = some (.int .u64 y0.set.w1) ∧ w'.cell? ⟨b, off + 3, none⟩ = some (.int .u64 y0.set.w2) ∧ w'.cell? ⟨b, off + 4, none⟩ = some (.int .u64 y0.set.w3) ∧ w'.cell? ⟨b, off + 5, none⟩ = some (.slice y0.addr y0.n y0.cap) ∧ w'.cell? ⟨b, off + 6, none⟩ = some (.int .i64 y0.lo) ∧ w'.cell? ⟨b, off + 7, none⟩ = some (.int .i64 y0.hi) ∧ w'.cell? ⟨b, off + 8, none⟩ = some (.bool y0.neg))
          (first | go_keep | exact hS16 | exact hS17 | fail)
          (first
            | (go_at_call 11
               (with_reducible refine (HS1.out).mono ?_)
               rintro e w16 ⟨rfl, hb16⟩
               have hb16 := ((Below.refl w15.heap.size w15).drew).trans hb16
               have HB16 := Lib.hid (HB15.out.trans (hb16.mono HB15.out.size))
               have hS16 := HSALL.out w16 hb16
               have HBC16 := Lib.hid hb16
               have HS2c := Lib.hid (HS2.out w16 hb16)
               clear hb16 a0 a1 a2 a3 a4 a5 a6 a7 a8 b0 b1 b2 b3 b4 b5 b6 b7 b8 c0 c5 d0 d1 d2 d3 d4 d5 d6 d7 d8)
            | (go_at_call 11
               (with_reducible refine (HS2c.out).mono ?_)
               rintro e w17 ⟨rfl, hb17⟩
               have HB17 := Lib.hid (HB16.out.trans (hb17.mono HB16.out.size))
               have hS17 := HSALL.out w17 (HBC16.out.trans (hb17.mono HBC16.out.size))))
        all_goals go_wp2_with fail
        all_goals go_ret
        all_goals exact ⟨rfl, HB17.out⟩

theorem lawNames (k : Nat) (t : Tr) (u : ByteArray) (w : World) (h : Tr.Ins w k t) : Calls Try.prog 4 #[.agg t.cs.toArray, .string u] w fun e w' => e = .returned (.bool true) ∧ Below w.heap.size w w' := by
  by_cases hf : nodesS k 60 t ≤ 2000
  · by_cases hl : 100 < u.size
    · exact lawNamesLong k t u w h hf hl
    · cases hn : isFormed k t with
      | false => exact lawNamesNot k t u w h hf hl hn
      | true =>
        cases hu : namedS u with
        | false => exact lawNamesOdd k t u w h hf hl hn hu
        | true => exact lawNamesMain k t u w h hf hl hn hu
  · exact lawNamesMany k t u w h hf
end Go.Proofs.Ytjfdejcgkblleaa
