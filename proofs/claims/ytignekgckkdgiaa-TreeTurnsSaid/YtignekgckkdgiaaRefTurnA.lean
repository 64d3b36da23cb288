/- The reference's Turn: a pattern turned round, in memory of its own. -/
import Derived.Test.YtignekgckkdgiaaProg
import Derived.Test.YtignekgckkdgiaaParts
import Derived.Deep.DeepCutAuto
namespace Go.Proofs.Ytignekgckkdgiaa
open Go.RowKit
set_option linter.unusedSimpArgs false
set_option linter.unusedVariables false

set_option maxRecDepth 100000 in
set_option maxHeartbeats 1000000 in
theorem refTurn_o (k : Nat) (ih : Makes 18 turnS k) (t : Tr) (w : World) (h : Tr.In w (k + 1) t) (hs : slimS (k + 1) t) (hk : ¬ t.kind = 3 ∧ ¬ t.kind = 8 ∧ ¬ t.kind = 9 ∧ ¬ t.kind = 10 ∧ ¬ t.kind = 11) :
    Calls Try.prog 18 #[.agg t.cs.toArray] w (Made turnS (k + 1) t w) := by
  have hn := h.2.1.1
  have HN := Lib.hid hn
  have HI := Lib.hid h
  have HIH := Lib.hid ih
  have HSl := Lib.hid hs
  have HK := Lib.hid hk
  obtain ⟨w2, hw2⟩ : ∃ w2, w2 = (w.alloc (.cells t.cs.toArray 27)).alloc (.cells #[.int .i64 0, .int .u64 0, .int .u64 0, .int .u64 0, .int .u64 0, .slice none 0 0, .int .i64 0, .int .i64 0, .bool false] 27) := ⟨_, rfl⟩
  have HA0 : Hid (At w2 w.heap.size 27 t.cs.toArray) := Lib.hid (by rw [hw2]; exact (At.new _ _ _).alloc _)
  have HZ0 : Hid (At w2 (w.heap.size + 1) 27 Tr.blank.cs.toArray) := Lib.hid (by rw [hw2]; exact at_new' (w.alloc (.cells t.cs.toArray 27)) (w.heap.size + 1) 27 (cs := Tr.blank.cs.toArray) (by simp))
  have HB0 : Hid (Below w.heap.size w w2) := Lib.hid (by rw [hw2]; exact below_two _ _)
  have HW2 := Lib.hid hw2
  have hsz2 : w2.heap.size = w.heap.size + 2 := by rw [hw2]; simp
  have HSz := Lib.hid hsz2
  have hA1 : At ((w.alloc (.cells t.cs.toArray 27)).alloc (.cells #[.int .i64 0, .int .u64 0, .int .u64 0, .int .u64 0, .int .u64 0, .slice none 0 0, .int .i64 0, .int .i64 0, .bool false] 27)) w.heap.size 27 t.cs.toArray := (At.new _ _ _).alloc _
  have hone := Tr.one t
  have hp2000 : t.parts.length ≤ 2000 := hs.1
  obtain ⟨i0, hi0, hz0, hz1, hz2⟩ := info_parts info_re
  have k3 := (int_ne (show ¬ t.kind = 3 by omega)).1
  have k8 := (int_ne (show ¬ t.kind = 8 by omega)).1
  have k9 := (int_ne (show ¬ t.kind = 9 by omega)).1
  have k10 := (int_ne (show ¬ t.kind = 10 by omega)).1
  have k11 := (int_ne (show ¬ t.kind = 11 by omega)).1
  clear h hs ih hn hk hw2 hsz2
  go_enter Try.func18, Try.ntmps18
  go_upto_region 1 with (fail)
  rw [← HW2.out]
  have hx := boxW_at w2 t
  have HBx := boxW_below HB0.out t
  have HAx := HA0.out.below (boxW_next w2 t) HA0.out.lt
  have HZx := HZ0.out.below (boxW_next w2 t) HZ0.out.lt
  clear hA1
  have hA1 := HA0.out
  go_upto_region 2 with (first
    | (refine wpList_load_row rfl 27 _ rfl w.heap.size rfl 27 t.cs.toArray (0, 0) _ hA1 Try.underlying27 rfl (by kernel_rfl) ?_)
    | (with_reducible show wpList _ _ _ ({ dst := none, op := .store 27 _ _, type := _, pos := _, after := _, guard := _ } :: _) _ _
       refine wpList_store_row rfl 27 _ _ rfl w2.heap.size t.cs.toArray rfl rfl 27 Tr.blank.cs.toArray (At.new _ _ _) (by kernel_rfl) rfl hone ?_
       change wpList _ _ _ _ _ (boxW w2 t)) | fail)
  have HX0 := Lib.hid hx
  have HAx0 := Lib.hid HAx
  have HZx0 := Lib.hid HZx
  have HBx0 := Lib.hid HBx
  have hszx : (boxW w2 t).heap.size = w2.heap.size + 1 := boxW_size w2 t
  clear hx HAx HZx HBx hA1 HA0 HZ0 HB0 HW2
  generalize boxW w2 t = w3 at HX0 HAx0 HZx0 HBx0 hszx ⊢
  obtain ⟨g3, hg3⟩ : ∃ g3, g3 = w2.heap.size := ⟨_, rfl⟩
  rw [← hg3] at HX0 hszx HSz ⊢
  have HSx := Lib.hid hszx
  have HG3 : Hid (g3 = w.heap.size + 2) := HSz
  clear hg3 hszx HSz
  have q5 := HX0.out.cell 5
  have f5 := HX0.out.free 5
  rw [show t.cs.toArray[5]? = some (.slice t.addr t.n t.cap) from rfl] at q5
  go_upto_region 3 with (fail)
  have HX1 := Lib.hid (HX0.out.set 5 (.slice none 0 0))
  have HA1 := Lib.hid (HAx0.out.other (p := ⟨g3, 5, none⟩) (by have := HG3.out; dsimp only; omega) (.slice none 0 0))
  have HZ1 := Lib.hid (HZx0.out.other (p := ⟨g3, 5, none⟩) (by have := HG3.out; dsimp only; omega) (.slice none 0 0))
  have HB1 := Lib.hid (HBx0.out.setCell (p := ⟨g3, 5, none⟩) (by have := HG3.out; dsimp only; omega) (.slice none 0 0))
  have hS1 : (w3.setCell ⟨g3, 5, none⟩ (.slice none 0 0)).heap.size = g3 + 1 := by rw [← HSx.out]; simp
  clear q5 f5 HX0 HAx0 HZx0 HBx0 HSx
  generalize w3.setCell ⟨g3, 5, none⟩ (.slice none 0 0) = w4 at HX1 HA1 HZ1 HB1 hS1 ⊢
  have HS1 := Lib.hid hS1
  clear hS1
  have c5 := (At.tr_cell HA1.out).2.1
  rw [HN.out] at c5
  go_wp2_with fail
  go_loopw [11] (fun i wr => ∃ (j : Nat) (L : List Tr) (v : Value), j ≤ t.parts.length ∧ i = .int .i64 j ∧ L.length = j ∧ Hid (L.map (Tr.strip k) = (t.parts.take j).map (turnS k)) ∧ Hid (PartsOf wr (g3 + 1) v L k) ∧ Hid (At wr w.heap.size 27 t.cs.toArray) ∧ Hid (At wr (w.heap.size + 1) 27 Tr.blank.cs.toArray) ∧ Hid (At wr g3 27 (t.cs.toArray.setIfInBounds 5 v)) ∧ Hid (Below w.heap.size w wr)) (fun i _ => t.parts.length - (intOf i).toNat)
  case atStart => exact ⟨0, [], .slice none 0 0, Nat.zero_le _, rfl, rfl, Lib.hid (by simp),  Lib.hid (PartsOf.nil _ _ _), HA1, HZ1, HX1, HB1⟩
  case round =>
    clear HA1 HZ1 HX1 HB1 c5
    obtain ⟨j, L, v, hj, rfl, hLj, HO,  HP, HA, HZ, HX, HB⟩ := hrel
    by_cases hlt : j < t.parts.length
    · have c5 := (At.tr_cell HA.out).2.1
      obtain ⟨b, off, ha, hb, hr⟩ := HI.out.2.2.1 (by rw [HN.out]; omega)
      have HR := Lib.hid (range_below (hr j hlt) hb (Nat.le_refl _) HB.out)
      have HQ := Lib.hid (Tr.In.next (HI.out.2.2.2 j hlt) HB.out)
      have HSj := Lib.hid (HSl.out.2 _ (List.getElem_mem hlt))
      clear hr hb
      rw [ha, HN.out] at c5
      clear ha
      have HLj := Lib.hid hLj
      clear hLj
      have hjz : (0 : Int) ≤ (j : Int) := by omega
      have hjn : (j : Int) < (t.parts.length : Int) := by omega
      go_wp2_with (refine wpList_load_mid rfl 27 _ rfl b (off + j * 9) rfl t.parts[j].cs _ HR.out Try.underlying27 rfl (by rw [Tr.cs_length]; kernel_rfl) ?_)
      refine (HIH.out t.parts[j] _ HQ.out HSj.out).mono ?_
      rintro e w5 ⟨p, rfl, hin, hfr, hst, hb5⟩
      have hgl := HX.out.lt
      have hbB := boxW_next w5 p
      have HAp := Lib.hid (boxW_at w5 p)
      have HA6 := Lib.hid ((HA.out.below hb5 HA.out.lt).below hbB (by have := HA.out.lt; have := hb5.size; omega))
      have HZ6 := Lib.hid ((HZ.out.below hb5 HZ.out.lt).below hbB (by have := HZ.out.lt; have := hb5.size; omega))
      have HX6 := Lib.hid ((HX.out.below hb5 HX.out.lt).below hbB (by have := HX.out.lt; have := hb5.size; omega))
      have HB6 := Lib.hid ((HB.out.trans (hb5.mono HB.out.size)).trans (hbB.mono (Nat.le_trans HB.out.size hb5.size)))
      have HP6 := Lib.hid ((HP.out.next hb5).next hbB)
      have HIn := Lib.hid (hin.next hbB)
      have HFr := Lib.hid (hfr.lower (show g3 + 1 ≤ wr.heap.size by omega))
      have HOf : Hid (∀ g, v.ownBlock = some g → Tr.Off g k p) := Lib.hid (fun g hg => Tr.Off.from (HP.out.own.lt g hg).2 k p hfr)
      have HSt := Lib.hid hst
      have HS6 : Hid (w5.heap.size + 1 = (boxW w5 p).heap.size ∧ g3 < w5.heap.size) := Lib.hid ⟨(boxW_size w5 p).symm, by have := hb5.size; omega⟩
      have honep := Tr.one p
      have c0 := (At.tr_cell HA6.out).1
      have q5 : (boxW w5 p).cell? ⟨g3, 5, none⟩ = some v := HX6.out.cell 5
      have f5 := HX6.out.free 5
      clear hb5 hin hfr hst c5 hgl hbB
      obtain ⟨gb, hgb⟩ : ∃ gb, gb = (boxW w5 p).heap.size := ⟨_, rfl⟩
      obtain ⟨w7, hw7⟩ : ∃ w7, w7 = (boxW w5 p).alloc (.cells p.cs.toArray 27) := ⟨_, rfl⟩
      have HW7 := Lib.hid hw7
      have HGb := Lib.hid hgb
      have hB7 : Below (boxW w5 p).heap.size (boxW w5 p) w7 := by rw [hw7]; exact (Below.refl _ _).alloc (Nat.le_refl _) _
      have hs7 : w7.heap.size = gb + 1 := by rw [hw7, hgb]; simp
      have HA7 := Lib.hid (HA6.out.below hB7 HA6.out.lt)
      have HZ7 := Lib.hid (HZ6.out.below hB7 HZ6.out.lt)
      have HX7 := Lib.hid (HX6.out.below hB7 HX6.out.lt)
      have HB7 := Lib.hid (HB6.out.trans (hB7.mono HB6.out.size))
      have HP7 := Lib.hid (HP6.out.next hB7)
      have HIn7 := Lib.hid (HIn.out.next hB7)
      have HAt7 : Hid (At w7 gb 27 p.cs.toArray) := Lib.hid (by rw [hw7, hgb]; exact At.new _ _ _)
      have HS7 := Lib.hid hs7
      have hgbs : g3 + 1 < gb := by have := HS6.out; omega
      have hLle : L.length < 2000 := by have := HLj.out; omega
      clear hB7 hs7 hw7 hgb
      go_wp2_with (first
        | (with_reducible show wpList _ _ _ ({ dst := none, op := .store 27 _ _, type := _, pos := _, after := _, guard := _ } :: _) _ _
           refine wpList_store_row rfl 27 _ _ rfl w5.heap.size p.cs.toArray rfl rfl 27 Tr.blank.cs.toArray (At.new _ _ _) (by kernel_rfl) rfl honep ?_
           change Exit.then _ _ _ _ (boxW w5 p))
        | (with_reducible show wpList _ _ _ ({ dst := _, op := .load 27 _, type := _, pos := _, after := _, guard := _ } :: _) _ _
           refine wpList_load_row rfl 27 _ rfl w5.heap.size rfl 27 p.cs.toArray (0, 0) _ HAp.out Try.underlying27 rfl (by kernel_rfl) ?_)
        | (with_reducible show wpList _ _ _ ({ dst := _, op := .buildSlice _ _ _, type := _, pos := _, after := _, guard := _ } :: _) _ _
           refine wpList_slice_tr rfl _ p rfl rfl ?_
           rw [← HW7.out, ← HGb.out])
        | (at_builtin
           refine wpList_append_lies _ rfl _ _ _ rfl (g3 + 1) 27 i0 _ 9 88 Try.underlying25 hi0 hz0 hz1 hz2 rfl (by omega) v L.length _ rfl HP7.out.own ⟨gb, 0, none⟩ 1 1 p.cs rfl rfl ?c1 ?c2 ?c6 ?c3 ?c4 ?c5 _ rfl ?_
           case c1 => exact fun i u hu => by rw [Addr.add_mid, Nat.zero_add]; exact (HAt7.out.cell i).trans (by simpa using hu)
           case c2 => exact fun u hu => by have := honep; rw [Array.all_eq_true_iff_forall_mem] at this; exact this u (by simpa using hu)
           case c6 => omega
           case c3 => unfold maxLen; omega
           case c4 => omega
           case c5 => rw [HS7.out]; omega
           intro g cap w8 hown8 hg8 hat8 hlt8
           have HX8 := Lib.hid (At.grown' HX7.out hg8 (fun e => by have := (HP7.out.own.lt g3 e.symm).1; omega))
           have q5 : w8.cell? ⟨g3, 5, none⟩ = some v := HX8.out.cell 5
           have f5 := HX8.out.free 5)
        | fail)
      have hO9 : Only g3 w8 (w8.setCell ⟨g3, 5, none⟩ (.slice (some ⟨g, 0, none⟩) (L.length + 1) cap)) := (Only.refl g3 w8).cell 5 _
      have hpu := PartsOf.push HP7.out HIn7.out HFr.out HOf.out hown8 hg8 hat8 (Nat.le_refl _)
      have hrow : ∀ b, v.ownBlock = some b → g3 + 1 ≤ b := fun b hb => (HP7.out.own.lt b hb).1
      refine ⟨⟨j + 1, L ++ [p], .slice (some ⟨g, 0, none⟩) (L.length + 1) cap, by omega, by go_num, by rw [List.length_append, HLj.out]; rfl, Lib.hid ?_, Lib.hid (hpu.only hO9 (by omega)), Lib.hid ?_, Lib.hid ?_, Lib.hid ?_, Lib.hid ?_⟩, by simp [intOf]; omega⟩
      · rw [List.map_append, HO.out, List.take_succ_eq_append_getElem hlt, List.map_append, List.map_singleton, List.map_singleton, HSt.out]
      · exact hO9.at (At.grown' HA7.out hg8 (fun e => by have := hrow _ e.symm; have := HG3.out; omega)) (by have := HG3.out; omega)
      · exact hO9.at (At.grown' HZ7.out hg8 (fun e => by have := hrow _ e.symm; have := HG3.out; omega)) (by have := HG3.out; omega)
      · have h5 := HX8.out.set 5 (.slice (some ⟨g, 0, none⟩) (L.length + 1) cap)
        rw [set5] at h5
        exact h5
      · exact (below_grown' HB7.out HB7.out.size hg8 (fun b hb => by have := hrow _ hb; have := HG3.out; omega)).trans (hO9.below (by have := HG3.out; omega))
    · obtain rfl : j = t.parts.length := by omega
      obtain ⟨A, c, hv, _⟩ := HP.out.form
      subst hv
      have ho := HO.out
      rw [List.take_length] at ho
      have HO2 : Hid (L.map (Tr.strip k) = (t.parts).map (turnS k)) := Lib.hid (by exact ho)
      have HLn : Hid (L.length ≤ 2000) := Lib.hid (by omega)
      clear ho hLj
      have hone2 := Tr.one (Tr.node t.kind t.set A L.length c L t.lo t.hi t.neg)
      have c0 := (At.tr_cell HA.out).1
      have x0 := HX.out.cell 0
      have f0 := HX.out.free 0
      rw [show (t.cs.toArray.setIfInBounds 5 (.slice A L.length c))[0]? = some (.int .i64 t.kind) from rfl] at x0
      have hXn : At (wr) g3 27 (Tr.node t.kind t.set A L.length c L t.lo t.hi t.neg).cs.toArray := HX.out
      have hZn : At (wr) (w.heap.size + 1) 27 Tr.blank.cs.toArray := HZ.out
      have hBn : Below w.heap.size w (wr) := HB.out
      have hPn : PartsOf (wr) (g3 + 1) (.slice A L.length c) L k := HP.out
      have HXn := Lib.hid hXn
      have HZn := Lib.hid hZn
      have HBn := Lib.hid hBn
      have HPn := Lib.hid hPn
      clear hXn hZn hBn hPn
      go_wp2_with (first
        | (with_reducible show wpList _ _ _ ({ dst := _, op := .load 27 _, type := _, pos := _, after := _, guard := _ } :: _) _ _
           refine wpList_load_row rfl 27 _ rfl g3 rfl 27 (Tr.node t.kind t.set A L.length c L t.lo t.hi t.neg).cs.toArray (0, 0) _ HXn.out Try.underlying27 rfl (by kernel_rfl) ?_)
        | (with_reducible show wpList _ _ _ ({ dst := none, op := .store 27 _ _, type := _, pos := _, after := _, guard := _ } :: _) _ _
           refine wpList_store_row rfl 27 _ _ rfl (w.heap.size + 1) (Tr.node t.kind t.set A L.length c L t.lo t.hi t.neg).cs.toArray rfl rfl 27 Tr.blank.cs.toArray HZn.out (by kernel_rfl) rfl hone2 ?_) | fail)
      have hO : Only (w.heap.size + 1) (wr) ((wr).setRow (w.heap.size + 1) (Tr.node t.kind t.set A L.length c L t.lo t.hi t.neg).cs.toArray) := Only.row _ _ _
      obtain ⟨m1, m2, m3⟩ := listed_in (S := turnS) (parts := t.parts) (kd := t.kind) (lo := t.lo) (hi := t.hi) (neg := t.neg) HI.out.1.1 HI.out.1.2.1 HI.out.1.2.2.1 HI.out.1.2.2.2 HLn.out (HPn.out.only hO (by have := HG3.out; omega)) HO2.out
      exact bodyPost_ret (results_cell_row Try.results18 _ _ (w.heap.size + 1) 27 (Tr.node t.kind t.set A L.length c L t.lo t.hi t.neg).cs.toArray (0, 0) _ rfl (HZn.out.row _) Try.underlying27 rfl (by kernel_rfl)) rfl ⟨_, rfl, m1, m2.lower (by have := HG3.out; omega), m3.trans (by show _ = Tr.node (turnKind t.kind) t.set none t.parts.length 0 (if t.kind = 3 then (t.parts.map (turnS k)).reverse else t.parts.map (turnS k)) t.lo t.hi t.neg; rw [if_neg (by have := HK.out; omega), turnKind_other (by have := HK.out; omega)]), HBn.out.trans (hO.below (by omega))⟩


set_option maxRecDepth 100000 in
set_option maxHeartbeats 1000000 in
theorem refTurn_8 (k : Nat) (ih : Makes 18 turnS k) (t : Tr) (w : World) (h : Tr.In w (k + 1) t) (hs : slimS (k + 1) t) (hk : t.kind = 8) :
    Calls Try.prog 18 #[.agg t.cs.toArray] w (Made turnS (k + 1) t w) := by
  have hn := h.2.1.1
  have HN := Lib.hid hn
  have HI := Lib.hid h
  have HIH := Lib.hid ih
  have HSl := Lib.hid hs
  have HK := Lib.hid hk
  obtain ⟨w2, hw2⟩ : ∃ w2, w2 = (w.alloc (.cells t.cs.toArray 27)).alloc (.cells #[.int .i64 0, .int .u64 0, .int .u64 0, .int .u64 0, .int .u64 0, .slice none 0 0, .int .i64 0, .int .i64 0, .bool false] 27) := ⟨_, rfl⟩
  have HA0 : Hid (At w2 w.heap.size 27 t.cs.toArray) := Lib.hid (by rw [hw2]; exact (At.new _ _ _).alloc _)
  have HZ0 : Hid (At w2 (w.heap.size + 1) 27 Tr.blank.cs.toArray) := Lib.hid (by rw [hw2]; exact at_new' (w.alloc (.cells t.cs.toArray 27)) (w.heap.size + 1) 27 (cs := Tr.blank.cs.toArray) (by simp))
  have HB0 : Hid (Below w.heap.size w w2) := Lib.hid (by rw [hw2]; exact below_two _ _)
  have HW2 := Lib.hid hw2
  have hsz2 : w2.heap.size = w.heap.size + 2 := by rw [hw2]; simp
  have HSz := Lib.hid hsz2
  have hA1 : At ((w.alloc (.cells t.cs.toArray 27)).alloc (.cells #[.int .i64 0, .int .u64 0, .int .u64 0, .int .u64 0, .int .u64 0, .slice none 0 0, .int .i64 0, .int .i64 0, .bool false] 27)) w.heap.size 27 t.cs.toArray := (At.new _ _ _).alloc _
  have hone := Tr.one t
  have hp2000 : t.parts.length ≤ 2000 := hs.1
  obtain ⟨i0, hi0, hz0, hz1, hz2⟩ := info_parts info_re
  clear h hs ih hn hk hw2 hsz2
  go_enter Try.func18, Try.ntmps18
  go_upto_region 1 with (fail)
  rw [← HW2.out]
  have hx := boxW_at w2 t
  have HBx := boxW_below HB0.out t
  have HAx := HA0.out.below (boxW_next w2 t) HA0.out.lt
  have HZx := HZ0.out.below (boxW_next w2 t) HZ0.out.lt
  clear hA1
  have hA1 := HA0.out
  go_upto_region 2 with (first
    | (refine wpList_load_row rfl 27 _ rfl w.heap.size rfl 27 t.cs.toArray (0, 0) _ hA1 Try.underlying27 rfl (by kernel_rfl) ?_)
    | (with_reducible show wpList _ _ _ ({ dst := none, op := .store 27 _ _, type := _, pos := _, after := _, guard := _ } :: _) _ _
       refine wpList_store_row rfl 27 _ _ rfl w2.heap.size t.cs.toArray rfl rfl 27 Tr.blank.cs.toArray (At.new _ _ _) (by kernel_rfl) rfl hone ?_
       change wpList _ _ _ _ _ (boxW w2 t)) | fail)
  have HX0 := Lib.hid hx
  have HAx0 := Lib.hid HAx
  have HZx0 := Lib.hid HZx
  have HBx0 := Lib.hid HBx
  have hszx : (boxW w2 t).heap.size = w2.heap.size + 1 := boxW_size w2 t
  clear hx HAx HZx HBx hA1 HA0 HZ0 HB0 HW2
  generalize boxW w2 t = w3 at HX0 HAx0 HZx0 HBx0 hszx ⊢
  obtain ⟨g3, hg3⟩ : ∃ g3, g3 = w2.heap.size := ⟨_, rfl⟩
  rw [← hg3] at HX0 hszx HSz ⊢
  have HSx := Lib.hid hszx
  have HG3 : Hid (g3 = w.heap.size + 2) := HSz
  clear hg3 hszx HSz
  have q5 := HX0.out.cell 5
  have f5 := HX0.out.free 5
  rw [show t.cs.toArray[5]? = some (.slice t.addr t.n t.cap) from rfl] at q5
  go_upto_region 3 with (fail)
  have HX1 := Lib.hid (HX0.out.set 5 (.slice none 0 0))
  have HA1 := Lib.hid (HAx0.out.other (p := ⟨g3, 5, none⟩) (by have := HG3.out; dsimp only; omega) (.slice none 0 0))
  have HZ1 := Lib.hid (HZx0.out.other (p := ⟨g3, 5, none⟩) (by have := HG3.out; dsimp only; omega) (.slice none 0 0))
  have HB1 := Lib.hid (HBx0.out.setCell (p := ⟨g3, 5, none⟩) (by have := HG3.out; dsimp only; omega) (.slice none 0 0))
  have hS1 : (w3.setCell ⟨g3, 5, none⟩ (.slice none 0 0)).heap.size = g3 + 1 := by rw [← HSx.out]; simp
  clear q5 f5 HX0 HAx0 HZx0 HBx0 HSx
  generalize w3.setCell ⟨g3, 5, none⟩ (.slice none 0 0) = w4 at HX1 HA1 HZ1 HB1 hS1 ⊢
  have HS1 := Lib.hid hS1
  clear hS1
  have c5 := (At.tr_cell HA1.out).2.1
  rw [HN.out] at c5
  go_wp2_with fail
  go_loopw [11] (fun i wr => ∃ (j : Nat) (L : List Tr) (v : Value), j ≤ t.parts.length ∧ i = .int .i64 j ∧ L.length = j ∧ Hid (L.map (Tr.strip k) = (t.parts.take j).map (turnS k)) ∧ Hid (PartsOf wr (g3 + 1) v L k) ∧ Hid (At wr w.heap.size 27 t.cs.toArray) ∧ Hid (At wr (w.heap.size + 1) 27 Tr.blank.cs.toArray) ∧ Hid (At wr g3 27 (t.cs.toArray.setIfInBounds 5 v)) ∧ Hid (Below w.heap.size w wr)) (fun i _ => t.parts.length - (intOf i).toNat)
  case atStart => exact ⟨0, [], .slice none 0 0, Nat.zero_le _, rfl, rfl, Lib.hid (by simp),  Lib.hid (PartsOf.nil _ _ _), HA1, HZ1, HX1, HB1⟩
  case round =>
    clear HA1 HZ1 HX1 HB1 c5
    obtain ⟨j, L, v, hj, rfl, hLj, HO,  HP, HA, HZ, HX, HB⟩ := hrel
    by_cases hlt : j < t.parts.length
    · have c5 := (At.tr_cell HA.out).2.1
      obtain ⟨b, off, ha, hb, hr⟩ := HI.out.2.2.1 (by rw [HN.out]; omega)
      have HR := Lib.hid (range_below (hr j hlt) hb (Nat.le_refl _) HB.out)
      have HQ := Lib.hid (Tr.In.next (HI.out.2.2.2 j hlt) HB.out)
      have HSj := Lib.hid (HSl.out.2 _ (List.getElem_mem hlt))
      clear hr hb
      rw [ha, HN.out] at c5
      clear ha
      have HLj := Lib.hid hLj
      clear hLj
      have hjz : (0 : Int) ≤ (j : Int) := by omega
      have hjn : (j : Int) < (t.parts.length : Int) := by omega
      go_wp2_with (refine wpList_load_mid rfl 27 _ rfl b (off + j * 9) rfl t.parts[j].cs _ HR.out Try.underlying27 rfl (by rw [Tr.cs_length]; kernel_rfl) ?_)
      refine (HIH.out t.parts[j] _ HQ.out HSj.out).mono ?_
      rintro e w5 ⟨p, rfl, hin, hfr, hst, hb5⟩
      have hgl := HX.out.lt
      have hbB := boxW_next w5 p
      have HAp := Lib.hid (boxW_at w5 p)
      have HA6 := Lib.hid ((HA.out.below hb5 HA.out.lt).below hbB (by have := HA.out.lt; have := hb5.size; omega))
      have HZ6 := Lib.hid ((HZ.out.below hb5 HZ.out.lt).below hbB (by have := HZ.out.lt; have := hb5.size; omega))
      have HX6 := Lib.hid ((HX.out.below hb5 HX.out.lt).below hbB (by have := HX.out.lt; have := hb5.size; omega))
      have HB6 := Lib.hid ((HB.out.trans (hb5.mono HB.out.size)).trans (hbB.mono (Nat.le_trans HB.out.size hb5.size)))
      have HP6 := Lib.hid ((HP.out.next hb5).next hbB)
      have HIn := Lib.hid (hin.next hbB)
      have HFr := Lib.hid (hfr.lower (show g3 + 1 ≤ wr.heap.size by omega))
      have HOf : Hid (∀ g, v.ownBlock = some g → Tr.Off g k p) := Lib.hid (fun g hg => Tr.Off.from (HP.out.own.lt g hg).2 k p hfr)
      have HSt := Lib.hid hst
      have HS6 : Hid (w5.heap.size + 1 = (boxW w5 p).heap.size ∧ g3 < w5.heap.size) := Lib.hid ⟨(boxW_size w5 p).symm, by have := hb5.size; omega⟩
      have honep := Tr.one p
      have c0 := (At.tr_cell HA6.out).1
      rw [HK.out] at c0
      have q5 : (boxW w5 p).cell? ⟨g3, 5, none⟩ = some v := HX6.out.cell 5
      have f5 := HX6.out.free 5
      clear hb5 hin hfr hst c5 hgl hbB
      obtain ⟨gb, hgb⟩ : ∃ gb, gb = (boxW w5 p).heap.size := ⟨_, rfl⟩
      obtain ⟨w7, hw7⟩ : ∃ w7, w7 = (boxW w5 p).alloc (.cells p.cs.toArray 27) := ⟨_, rfl⟩
      have HW7 := Lib.hid hw7
      have HGb := Lib.hid hgb
      have hB7 : Below (boxW w5 p).heap.size (boxW w5 p) w7 := by rw [hw7]; exact (Below.refl _ _).alloc (Nat.le_refl _) _
      have hs7 : w7.heap.size = gb + 1 := by rw [hw7, hgb]; simp
      have HA7 := Lib.hid (HA6.out.below hB7 HA6.out.lt)
      have HZ7 := Lib.hid (HZ6.out.below hB7 HZ6.out.lt)
      have HX7 := Lib.hid (HX6.out.below hB7 HX6.out.lt)
      have HB7 := Lib.hid (HB6.out.trans (hB7.mono HB6.out.size))
      have HP7 := Lib.hid (HP6.out.next hB7)
      have HIn7 := Lib.hid (HIn.out.next hB7)
      have HAt7 : Hid (At w7 gb 27 p.cs.toArray) := Lib.hid (by rw [hw7, hgb]; exact At.new _ _ _)
      have HS7 := Lib.hid hs7
      have hgbs : g3 + 1 < gb := by have := HS6.out; omega
      have hLle : L.length < 2000 := by have := HLj.out; omega
      clear hB7 hs7 hw7 hgb
      go_wp2_with (first
        | (with_reducible show wpList _ _ _ ({ dst := none, op := .store 27 _ _, type := _, pos := _, after := _, guard := _ } :: _) _ _
           refine wpList_store_row rfl 27 _ _ rfl w5.heap.size p.cs.toArray rfl rfl 27 Tr.blank.cs.toArray (At.new _ _ _) (by kernel_rfl) rfl honep ?_
           change Exit.then _ _ _ _ (boxW w5 p))
        | (with_reducible show wpList _ _ _ ({ dst := _, op := .load 27 _, type := _, pos := _, after := _, guard := _ } :: _) _ _
           refine wpList_load_row rfl 27 _ rfl w5.heap.size rfl 27 p.cs.toArray (0, 0) _ HAp.out Try.underlying27 rfl (by kernel_rfl) ?_)
        | (with_reducible show wpList _ _ _ ({ dst := _, op := .buildSlice _ _ _, type := _, pos := _, after := _, guard := _ } :: _) _ _
           refine wpList_slice_tr rfl _ p rfl rfl ?_
           rw [← HW7.out, ← HGb.out])
        | (at_builtin
           refine wpList_append_lies _ rfl _ _ _ rfl (g3 + 1) 27 i0 _ 9 88 Try.underlying25 hi0 hz0 hz1 hz2 rfl (by omega) v L.length _ rfl HP7.out.own ⟨gb, 0, none⟩ 1 1 p.cs rfl rfl ?c1 ?c2 ?c6 ?c3 ?c4 ?c5 _ rfl ?_
           case c1 => exact fun i u hu => by rw [Addr.add_mid, Nat.zero_add]; exact (HAt7.out.cell i).trans (by simpa using hu)
           case c2 => exact fun u hu => by have := honep; rw [Array.all_eq_true_iff_forall_mem] at this; exact this u (by simpa using hu)
           case c6 => omega
           case c3 => unfold maxLen; omega
           case c4 => omega
           case c5 => rw [HS7.out]; omega
           intro g cap w8 hown8 hg8 hat8 hlt8
           have HX8 := Lib.hid (At.grown' HX7.out hg8 (fun e => by have := (HP7.out.own.lt g3 e.symm).1; omega))
           have q5 : w8.cell? ⟨g3, 5, none⟩ = some v := HX8.out.cell 5
           have f5 := HX8.out.free 5)
        | fail)
      have hO9 : Only g3 w8 (w8.setCell ⟨g3, 5, none⟩ (.slice (some ⟨g, 0, none⟩) (L.length + 1) cap)) := (Only.refl g3 w8).cell 5 _
      have hpu := PartsOf.push HP7.out HIn7.out HFr.out HOf.out hown8 hg8 hat8 (Nat.le_refl _)
      have hrow : ∀ b, v.ownBlock = some b → g3 + 1 ≤ b := fun b hb => (HP7.out.own.lt b hb).1
      refine ⟨⟨j + 1, L ++ [p], .slice (some ⟨g, 0, none⟩) (L.length + 1) cap, by omega, by go_num, by rw [List.length_append, HLj.out]; rfl, Lib.hid ?_, Lib.hid (hpu.only hO9 (by omega)), Lib.hid ?_, Lib.hid ?_, Lib.hid ?_, Lib.hid ?_⟩, by simp [intOf]; omega⟩
      · rw [List.map_append, HO.out, List.take_succ_eq_append_getElem hlt, List.map_append, List.map_singleton, List.map_singleton, HSt.out]
      · exact hO9.at (At.grown' HA7.out hg8 (fun e => by have := hrow _ e.symm; have := HG3.out; omega)) (by have := HG3.out; omega)
      · exact hO9.at (At.grown' HZ7.out hg8 (fun e => by have := hrow _ e.symm; have := HG3.out; omega)) (by have := HG3.out; omega)
      · have h5 := HX8.out.set 5 (.slice (some ⟨g, 0, none⟩) (L.length + 1) cap)
        rw [set5] at h5
        exact h5
      · exact (below_grown' HB7.out HB7.out.size hg8 (fun b hb => by have := hrow _ hb; have := HG3.out; omega)).trans (hO9.below (by have := HG3.out; omega))
    · obtain rfl : j = t.parts.length := by omega
      obtain ⟨A, c, hv, _⟩ := HP.out.form
      subst hv
      have ho := HO.out
      rw [List.take_length] at ho
      have HO2 : Hid (L.map (Tr.strip k) = (t.parts).map (turnS k)) := Lib.hid (by exact ho)
      have HLn : Hid (L.length ≤ 2000) := Lib.hid (by omega)
      clear ho hLj
      have hone2 := Tr.one (Tr.node 9 t.set A L.length c L t.lo t.hi t.neg)
      have c0 := (At.tr_cell HA.out).1
      rw [HK.out] at c0
      have x0 := HX.out.cell 0
      have f0 := HX.out.free 0
      rw [show (t.cs.toArray.setIfInBounds 5 (.slice A L.length c))[0]? = some (.int .i64 t.kind) from rfl] at x0
      have hXn : At (wr.setCell ⟨g3, 0, none⟩ (.int .i64 9)) g3 27 (Tr.node 9 t.set A L.length c L t.lo t.hi t.neg).cs.toArray := HX.out.set 0 _
      have hZn : At (wr.setCell ⟨g3, 0, none⟩ (.int .i64 9)) (w.heap.size + 1) 27 Tr.blank.cs.toArray := HZ.out.other (p := ⟨g3, 0, none⟩) (by have := HG3.out; dsimp only; omega) _
      have hBn : Below w.heap.size w (wr.setCell ⟨g3, 0, none⟩ (.int .i64 9)) := HB.out.setCell (p := ⟨g3, 0, none⟩) (by have := HG3.out; dsimp only; omega) _
      have hPn : PartsOf (wr.setCell ⟨g3, 0, none⟩ (.int .i64 9)) (g3 + 1) (.slice A L.length c) L k := HP.out.only ((Only.refl g3 wr).cell 0 _) (by omega)
      have HXn := Lib.hid hXn
      have HZn := Lib.hid hZn
      have HBn := Lib.hid hBn
      have HPn := Lib.hid hPn
      clear hXn hZn hBn hPn
      go_wp2_with (first
        | (with_reducible show wpList _ _ _ ({ dst := _, op := .load 27 _, type := _, pos := _, after := _, guard := _ } :: _) _ _
           refine wpList_load_row rfl 27 _ rfl g3 rfl 27 (Tr.node 9 t.set A L.length c L t.lo t.hi t.neg).cs.toArray (0, 0) _ HXn.out Try.underlying27 rfl (by kernel_rfl) ?_)
        | (with_reducible show wpList _ _ _ ({ dst := none, op := .store 27 _ _, type := _, pos := _, after := _, guard := _ } :: _) _ _
           refine wpList_store_row rfl 27 _ _ rfl (w.heap.size + 1) (Tr.node 9 t.set A L.length c L t.lo t.hi t.neg).cs.toArray rfl rfl 27 Tr.blank.cs.toArray HZn.out (by kernel_rfl) rfl hone2 ?_) | fail)
      have hO : Only (w.heap.size + 1) (wr.setCell ⟨g3, 0, none⟩ (.int .i64 9)) ((wr.setCell ⟨g3, 0, none⟩ (.int .i64 9)).setRow (w.heap.size + 1) (Tr.node 9 t.set A L.length c L t.lo t.hi t.neg).cs.toArray) := Only.row _ _ _
      obtain ⟨m1, m2, m3⟩ := listed_in (S := turnS) (parts := t.parts) (kd := 9) (lo := t.lo) (hi := t.hi) (neg := t.neg) HI.out.1.1 (by unfold I64; omega) HI.out.1.2.2.1 HI.out.1.2.2.2 HLn.out (HPn.out.only hO (by have := HG3.out; omega)) HO2.out
      exact bodyPost_ret (results_cell_row Try.results18 _ _ (w.heap.size + 1) 27 (Tr.node 9 t.set A L.length c L t.lo t.hi t.neg).cs.toArray (0, 0) _ rfl (HZn.out.row _) Try.underlying27 rfl (by kernel_rfl)) rfl ⟨_, rfl, m1, m2.lower (by have := HG3.out; omega), m3.trans (by show _ = Tr.node (turnKind t.kind) t.set none t.parts.length 0 (if t.kind = 3 then (t.parts.map (turnS k)).reverse else t.parts.map (turnS k)) t.lo t.hi t.neg; rw [HK.out]; rfl), HBn.out.trans (hO.below (by omega))⟩


set_option maxRecDepth 100000 in
set_option maxHeartbeats 1000000 in
theorem refTurn_9 (k : Nat) (ih : Makes 18 turnS k) (t : Tr) (w : World) (h : Tr.In w (k + 1) t) (hs : slimS (k + 1) t) (hk : t.kind = 9) :
    Calls Try.prog 18 #[.agg t.cs.toArray] w (Made turnS (k + 1) t w) := by
  have hn := h.2.1.1
  have HN := Lib.hid hn
  have HI := Lib.hid h
  have HIH := Lib.hid ih
  have HSl := Lib.hid hs
  have HK := Lib.hid hk
  obtain ⟨w2, hw2⟩ : ∃ w2, w2 = (w.alloc (.cells t.cs.toArray 27)).alloc (.cells #[.int .i64 0, .int .u64 0, .int .u64 0, .int .u64 0, .int .u64 0, .slice none 0 0, .int .i64 0, .int .i64 0, .bool false] 27) := ⟨_, rfl⟩
  have HA0 : Hid (At w2 w.heap.size 27 t.cs.toArray) := Lib.hid (by rw [hw2]; exact (At.new _ _ _).alloc _)
  have HZ0 : Hid (At w2 (w.heap.size + 1) 27 Tr.blank.cs.toArray) := Lib.hid (by rw [hw2]; exact at_new' (w.alloc (.cells t.cs.toArray 27)) (w.heap.size + 1) 27 (cs := Tr.blank.cs.toArray) (by simp))
  have HB0 : Hid (Below w.heap.size w w2) := Lib.hid (by rw [hw2]; exact below_two _ _)
  have HW2 := Lib.hid hw2
  have hsz2 : w2.heap.size = w.heap.size + 2 := by rw [hw2]; simp
  have HSz := Lib.hid hsz2
  have hA1 : At ((w.alloc (.cells t.cs.toArray 27)).alloc (.cells #[.int .i64 0, .int .u64 0, .int .u64 0, .int .u64 0, .int .u64 0, .slice none 0 0, .int .i64 0, .int .i64 0, .bool false] 27)) w.heap.size 27 t.cs.toArray := (At.new _ _ _).alloc _
  have hone := Tr.one t
  have hp2000 : t.parts.length ≤ 2000 := hs.1
  obtain ⟨i0, hi0, hz0, hz1, hz2⟩ := info_parts info_re
  clear h hs ih hn hk hw2 hsz2
  go_enter Try.func18, Try.ntmps18
  go_upto_region 1 with (fail)
  rw [← HW2.out]
  have hx := boxW_at w2 t
  have HBx := boxW_below HB0.out t
  have HAx := HA0.out.below (boxW_next w2 t) HA0.out.lt
  have HZx := HZ0.out.below (boxW_next w2 t) HZ0.out.lt
  clear hA1
  have hA1 := HA0.out
  go_upto_region 2 with (first
    | (refine wpList_load_row rfl 27 _ rfl w.heap.size rfl 27 t.cs.toArray (0, 0) _ hA1 Try.underlying27 rfl (by kernel_rfl) ?_)
    | (with_reducible show wpList _ _ _ ({ dst := none, op := .store 27 _ _, type := _, pos := _, after := _, guard := _ } :: _) _ _
       refine wpList_store_row rfl 27 _ _ rfl w2.heap.size t.cs.toArray rfl rfl 27 Tr.blank.cs.toArray (At.new _ _ _) (by kernel_rfl) rfl hone ?_
       change wpList _ _ _ _ _ (boxW w2 t)) | fail)
  have HX0 := Lib.hid hx
  have HAx0 := Lib.hid HAx
  have HZx0 := Lib.hid HZx
  have HBx0 := Lib.hid HBx
  have hszx : (boxW w2 t).heap.size = w2.heap.size + 1 := boxW_size w2 t
  clear hx HAx HZx HBx hA1 HA0 HZ0 HB0 HW2
  generalize boxW w2 t = w3 at HX0 HAx0 HZx0 HBx0 hszx ⊢
  obtain ⟨g3, hg3⟩ : ∃ g3, g3 = w2.heap.size := ⟨_, rfl⟩
  rw [← hg3] at HX0 hszx HSz ⊢
  have HSx := Lib.hid hszx
  have HG3 : Hid (g3 = w.heap.size + 2) := HSz
  clear hg3 hszx HSz
  have q5 := HX0.out.cell 5
  have f5 := HX0.out.free 5
  rw [show t.cs.toArray[5]? = some (.slice t.addr t.n t.cap) from rfl] at q5
  go_upto_region 3 with (fail)
  have HX1 := Lib.hid (HX0.out.set 5 (.slice none 0 0))
  have HA1 := Lib.hid (HAx0.out.other (p := ⟨g3, 5, none⟩) (by have := HG3.out; dsimp only; omega) (.slice none 0 0))
  have HZ1 := Lib.hid (HZx0.out.other (p := ⟨g3, 5, none⟩) (by have := HG3.out; dsimp only; omega) (.slice none 0 0))
  have HB1 := Lib.hid (HBx0.out.setCell (p := ⟨g3, 5, none⟩) (by have := HG3.out; dsimp only; omega) (.slice none 0 0))
  have hS1 : (w3.setCell ⟨g3, 5, none⟩ (.slice none 0 0)).heap.size = g3 + 1 := by rw [← HSx.out]; simp
  clear q5 f5 HX0 HAx0 HZx0 HBx0 HSx
  generalize w3.setCell ⟨g3, 5, none⟩ (.slice none 0 0) = w4 at HX1 HA1 HZ1 HB1 hS1 ⊢
  have HS1 := Lib.hid hS1
  clear hS1
  have c5 := (At.tr_cell HA1.out).2.1
  rw [HN.out] at c5
  go_wp2_with fail
  go_loopw [11] (fun i wr => ∃ (j : Nat) (L : List Tr) (v : Value), j ≤ t.parts.length ∧ i = .int .i64 j ∧ L.length = j ∧ Hid (L.map (Tr.strip k) = (t.parts.take j).map (turnS k)) ∧ Hid (PartsOf wr (g3 + 1) v L k) ∧ Hid (At wr w.heap.size 27 t.cs.toArray) ∧ Hid (At wr (w.heap.size + 1) 27 Tr.blank.cs.toArray) ∧ Hid (At wr g3 27 (t.cs.toArray.setIfInBounds 5 v)) ∧ Hid (Below w.heap.size w wr)) (fun i _ => t.parts.length - (intOf i).toNat)
  case atStart => exact ⟨0, [], .slice none 0 0, Nat.zero_le _, rfl, rfl, Lib.hid (by simp),  Lib.hid (PartsOf.nil _ _ _), HA1, HZ1, HX1, HB1⟩
  case round =>
    clear HA1 HZ1 HX1 HB1 c5
    obtain ⟨j, L, v, hj, rfl, hLj, HO,  HP, HA, HZ, HX, HB⟩ := hrel
    by_cases hlt : j < t.parts.length
    · have c5 := (At.tr_cell HA.out).2.1
      obtain ⟨b, off, ha, hb, hr⟩ := HI.out.2.2.1 (by rw [HN.out]; omega)
      have HR := Lib.hid (range_below (hr j hlt) hb (Nat.le_refl _) HB.out)
      have HQ := Lib.hid (Tr.In.next (HI.out.2.2.2 j hlt) HB.out)
      have HSj := Lib.hid (HSl.out.2 _ (List.getElem_mem hlt))
      clear hr hb
      rw [ha, HN.out] at c5
      clear ha
      have HLj := Lib.hid hLj
      clear hLj
      have hjz : (0 : Int) ≤ (j : Int) := by omega
      have hjn : (j : Int) < (t.parts.length : Int) := by omega
      go_wp2_with (refine wpList_load_mid rfl 27 _ rfl b (off + j * 9) rfl t.parts[j].cs _ HR.out Try.underlying27 rfl (by rw [Tr.cs_length]; kernel_rfl) ?_)
      refine (HIH.out t.parts[j] _ HQ.out HSj.out).mono ?_
      rintro e w5 ⟨p, rfl, hin, hfr, hst, hb5⟩
      have hgl := HX.out.lt
      have hbB := boxW_next w5 p
      have HAp := Lib.hid (boxW_at w5 p)
      have HA6 := Lib.hid ((HA.out.below hb5 HA.out.lt).below hbB (by have := HA.out.lt; have := hb5.size; omega))
      have HZ6 := Lib.hid ((HZ.out.below hb5 HZ.out.lt).below hbB (by have := HZ.out.lt; have := hb5.size; omega))
      have HX6 := Lib.hid ((HX.out.below hb5 HX.out.lt).below hbB (by have := HX.out.lt; have := hb5.size; omega))
      have HB6 := Lib.hid ((HB.out.trans (hb5.mono HB.out.size)).trans (hbB.mono (Nat.le_trans HB.out.size hb5.size)))
      have HP6 := Lib.hid ((HP.out.next hb5).next hbB)
      have HIn := Lib.hid (hin.next hbB)
      have HFr := Lib.hid (hfr.lower (show g3 + 1 ≤ wr.heap.size by omega))
      have HOf : Hid (∀ g, v.ownBlock = some g → Tr.Off g k p) := Lib.hid (fun g hg => Tr.Off.from (HP.out.own.lt g hg).2 k p hfr)
      have HSt := Lib.hid hst
      have HS6 : Hid (w5.heap.size + 1 = (boxW w5 p).heap.size ∧ g3 < w5.heap.size) := Lib.hid ⟨(boxW_size w5 p).symm, by have := hb5.size; omega⟩
      have honep := Tr.one p
      have c0 := (At.tr_cell HA6.out).1
      rw [HK.out] at c0
      have q5 : (boxW w5 p).cell? ⟨g3, 5, none⟩ = some v := HX6.out.cell 5
      have f5 := HX6.out.free 5
      clear hb5 hin hfr hst c5 hgl hbB
      obtain ⟨gb, hgb⟩ : ∃ gb, gb = (boxW w5 p).heap.size := ⟨_, rfl⟩
      obtain ⟨w7, hw7⟩ : ∃ w7, w7 = (boxW w5 p).alloc (.cells p.cs.toArray 27) := ⟨_, rfl⟩
      have HW7 := Lib.hid hw7
      have HGb := Lib.hid hgb
      have hB7 : Below (boxW w5 p).heap.size (boxW w5 p) w7 := by rw [hw7]; exact (Below.refl _ _).alloc (Nat.le_refl _) _
      have hs7 : w7.heap.size = gb + 1 := by rw [hw7, hgb]; simp
      have HA7 := Lib.hid (HA6.out.below hB7 HA6.out.lt)
      have HZ7 := Lib.hid (HZ6.out.below hB7 HZ6.out.lt)
      have HX7 := Lib.hid (HX6.out.below hB7 HX6.out.lt)
      have HB7 := Lib.hid (HB6.out.trans (hB7.mono HB6.out.size))
      have HP7 := Lib.hid (HP6.out.next hB7)
      have HIn7 := Lib.hid (HIn.out.next hB7)
      have HAt7 : Hid (At w7 gb 27 p.cs.toArray) := Lib.hid (by rw [hw7, hgb]; exact At.new _ _ _)
      have HS7 := Lib.hid hs7
      have hgbs : g3 + 1 < gb := by have := HS6.out; omega
      have hLle : L.length < 2000 := by have := HLj.out; omega
      clear hB7 hs7 hw7 hgb
      go_wp2_with (first
        | (with_reducible show wpList _ _ _ ({ dst := none, op := .store 27 _ _, type := _, pos := _, after := _, guard := _ } :: _) _ _
           refine wpList_store_row rfl 27 _ _ rfl w5.heap.size p.cs.toArray rfl rfl 27 Tr.blank.cs.toArray (At.new _ _ _) (by kernel_rfl) rfl honep ?_
           change Exit.then _ _ _ _ (boxW w5 p))
        | (with_reducible show wpList _ _ _ ({ dst := _, op := .load 27 _, type := _, pos := _, after := _, guard := _ } :: _) _ _
           refine wpList_load_row rfl 27 _ rfl w5.heap.size rfl 27 p.cs.toArray (0, 0) _ HAp.out Try.underlying27 rfl (by kernel_rfl) ?_)
        | (with_reducible show wpList _ _ _ ({ dst := _, op := .buildSlice _ _ _, type := _, pos := _, after := _, guard := _ } :: _) _ _
           refine wpList_slice_tr rfl _ p rfl rfl ?_
           rw [← HW7.out, ← HGb.out])
        | (at_builtin
           refine wpList_append_lies _ rfl _ _ _ rfl (g3 + 1) 27 i0 _ 9 88 Try.underlying25 hi0 hz0 hz1 hz2 rfl (by omega) v L.length _ rfl HP7.out.own ⟨gb, 0, none⟩ 1 1 p.cs rfl rfl ?c1 ?c2 ?c6 ?c3 ?c4 ?c5 _ rfl ?_
           case c1 => exact fun i u hu => by rw [Addr.add_mid, Nat.zero_add]; exact (HAt7.out.cell i).trans (by simpa using hu)
           case c2 => exact fun u hu => by have := honep; rw [Array.all_eq_true_iff_forall_mem] at this; exact this u (by simpa using hu)
           case c6 => omega
           case c3 => unfold maxLen; omega
           case c4 => omega
           case c5 => rw [HS7.out]; omega
           intro g cap w8 hown8 hg8 hat8 hlt8
           have HX8 := Lib.hid (At.grown' HX7.out hg8 (fun e => by have := (HP7.out.own.lt g3 e.symm).1; omega))
           have q5 : w8.cell? ⟨g3, 5, none⟩ = some v := HX8.out.cell 5
           have f5 := HX8.out.free 5)
        | fail)
      have hO9 : Only g3 w8 (w8.setCell ⟨g3, 5, none⟩ (.slice (some ⟨g, 0, none⟩) (L.length + 1) cap)) := (Only.refl g3 w8).cell 5 _
      have hpu := PartsOf.push HP7.out HIn7.out HFr.out HOf.out hown8 hg8 hat8 (Nat.le_refl _)
      have hrow : ∀ b, v.ownBlock = some b → g3 + 1 ≤ b := fun b hb => (HP7.out.own.lt b hb).1
      refine ⟨⟨j + 1, L ++ [p], .slice (some ⟨g, 0, none⟩) (L.length + 1) cap, by omega, by go_num, by rw [List.length_append, HLj.out]; rfl, Lib.hid ?_, Lib.hid (hpu.only hO9 (by omega)), Lib.hid ?_, Lib.hid ?_, Lib.hid ?_, Lib.hid ?_⟩, by simp [intOf]; omega⟩
      · rw [List.map_append, HO.out, List.take_succ_eq_append_getElem hlt, List.map_append, List.map_singleton, List.map_singleton, HSt.out]
      · exact hO9.at (At.grown' HA7.out hg8 (fun e => by have := hrow _ e.symm; have := HG3.out; omega)) (by have := HG3.out; omega)
      · exact hO9.at (At.grown' HZ7.out hg8 (fun e => by have := hrow _ e.symm; have := HG3.out; omega)) (by have := HG3.out; omega)
      · have h5 := HX8.out.set 5 (.slice (some ⟨g, 0, none⟩) (L.length + 1) cap)
        rw [set5] at h5
        exact h5
      · exact (below_grown' HB7.out HB7.out.size hg8 (fun b hb => by have := hrow _ hb; have := HG3.out; omega)).trans (hO9.below (by have := HG3.out; omega))
    · obtain rfl : j = t.parts.length := by omega
      obtain ⟨A, c, hv, _⟩ := HP.out.form
      subst hv
      have ho := HO.out
      rw [List.take_length] at ho
      have HO2 : Hid (L.map (Tr.strip k) = (t.parts).map (turnS k)) := Lib.hid (by exact ho)
      have HLn : Hid (L.length ≤ 2000) := Lib.hid (by omega)
      clear ho hLj
      have hone2 := Tr.one (Tr.node 8 t.set A L.length c L t.lo t.hi t.neg)
      have c0 := (At.tr_cell HA.out).1
      rw [HK.out] at c0
      have x0 := HX.out.cell 0
      have f0 := HX.out.free 0
      rw [show (t.cs.toArray.setIfInBounds 5 (.slice A L.length c))[0]? = some (.int .i64 t.kind) from rfl] at x0
      have hXn : At (wr.setCell ⟨g3, 0, none⟩ (.int .i64 8)) g3 27 (Tr.node 8 t.set A L.length c L t.lo t.hi t.neg).cs.toArray := HX.out.set 0 _
      have hZn : At (wr.setCell ⟨g3, 0, none⟩ (.int .i64 8)) (w.heap.size + 1) 27 Tr.blank.cs.toArray := HZ.out.other (p := ⟨g3, 0, none⟩) (by have := HG3.out; dsimp only; omega) _
      have hBn : Below w.heap.size w (wr.setCell ⟨g3, 0, none⟩ (.int .i64 8)) := HB.out.setCell (p := ⟨g3, 0, none⟩) (by have := HG3.out; dsimp only; omega) _
      have hPn : PartsOf (wr.setCell ⟨g3, 0, none⟩ (.int .i64 8)) (g3 + 1) (.slice A L.length c) L k := HP.out.only ((Only.refl g3 wr).cell 0 _) (by omega)
      have HXn := Lib.hid hXn
      have HZn := Lib.hid hZn
      have HBn := Lib.hid hBn
      have HPn := Lib.hid hPn
      clear hXn hZn hBn hPn
      go_wp2_with (first
        | (with_reducible show wpList _ _ _ ({ dst := _, op := .load 27 _, type := _, pos := _, after := _, guard := _ } :: _) _ _
           refine wpList_load_row rfl 27 _ rfl g3 rfl 27 (Tr.node 8 t.set A L.length c L t.lo t.hi t.neg).cs.toArray (0, 0) _ HXn.out Try.underlying27 rfl (by kernel_rfl) ?_)
        | (with_reducible show wpList _ _ _ ({ dst := none, op := .store 27 _ _, type := _, pos := _, after := _, guard := _ } :: _) _ _
           refine wpList_store_row rfl 27 _ _ rfl (w.heap.size + 1) (Tr.node 8 t.set A L.length c L t.lo t.hi t.neg).cs.toArray rfl rfl 27 Tr.blank.cs.toArray HZn.out (by kernel_rfl) rfl hone2 ?_) | fail)
      have hO : Only (w.heap.size + 1) (wr.setCell ⟨g3, 0, none⟩ (.int .i64 8)) ((wr.setCell ⟨g3, 0, none⟩ (.int .i64 8)).setRow (w.heap.size + 1) (Tr.node 8 t.set A L.length c L t.lo t.hi t.neg).cs.toArray) := Only.row _ _ _
      obtain ⟨m1, m2, m3⟩ := listed_in (S := turnS) (parts := t.parts) (kd := 8) (lo := t.lo) (hi := t.hi) (neg := t.neg) HI.out.1.1 (by unfold I64; omega) HI.out.1.2.2.1 HI.out.1.2.2.2 HLn.out (HPn.out.only hO (by have := HG3.out; omega)) HO2.out
      exact bodyPost_ret (results_cell_row Try.results18 _ _ (w.heap.size + 1) 27 (Tr.node 8 t.set A L.length c L t.lo t.hi t.neg).cs.toArray (0, 0) _ rfl (HZn.out.row _) Try.underlying27 rfl (by kernel_rfl)) rfl ⟨_, rfl, m1, m2.lower (by have := HG3.out; omega), m3.trans (by show _ = Tr.node (turnKind t.kind) t.set none t.parts.length 0 (if t.kind = 3 then (t.parts.map (turnS k)).reverse else t.parts.map (turnS k)) t.lo t.hi t.neg; rw [HK.out]; rfl), HBn.out.trans (hO.below (by omega))⟩


set_option maxRecDepth 100000 in
set_option maxHeartbeats 1000000 in
theorem refTurn_10 (k : Nat) (ih : Makes 18 turnS k) (t : Tr) (w : World) (h : Tr.In w (k + 1) t) (hs : slimS (k + 1) t) (hk : t.kind = 10) :
    Calls Try.prog 18 #[.agg t.cs.toArray] w (Made turnS (k + 1) t w) := by
  have hn := h.2.1.1
  have HN := Lib.hid hn
  have HI := Lib.hid h
  have HIH := Lib.hid ih
  have HSl := Lib.hid hs
  have HK := Lib.hid hk
  obtain ⟨w2, hw2⟩ : ∃ w2, w2 = (w.alloc (.cells t.cs.toArray 27)).alloc (.cells #[.int .i64 0, .int .u64 0, .int .u64 0, .int .u64 0, .int .u64 0, .slice none 0 0, .int .i64 0, .int .i64 0, .bool false] 27) := ⟨_, rfl⟩
  have HA0 : Hid (At w2 w.heap.size 27 t.cs.toArray) := Lib.hid (by rw [hw2]; exact (At.new _ _ _).alloc _)
  have HZ0 : Hid (At w2 (w.heap.size + 1) 27 Tr.blank.cs.toArray) := Lib.hid (by rw [hw2]; exact at_new' (w.alloc (.cells t.cs.toArray 27)) (w.heap.size + 1) 27 (cs := Tr.blank.cs.toArray) (by simp))
  have HB0 : Hid (Below w.heap.size w w2) := Lib.hid (by rw [hw2]; exact below_two _ _)
  have HW2 := Lib.hid hw2
  have hsz2 : w2.heap.size = w.heap.size + 2 := by rw [hw2]; simp
  have HSz := Lib.hid hsz2
  have hA1 : At ((w.alloc (.cells t.cs.toArray 27)).alloc (.cells #[.int .i64 0, .int .u64 0, .int .u64 0, .int .u64 0, .int .u64 0, .slice none 0 0, .int .i64 0, .int .i64 0, .bool false] 27)) w.heap.size 27 t.cs.toArray := (At.new _ _ _).alloc _
  have hone := Tr.one t
  have hp2000 : t.parts.length ≤ 2000 := hs.1
  obtain ⟨i0, hi0, hz0, hz1, hz2⟩ := info_parts info_re
  clear h hs ih hn hk hw2 hsz2
  go_enter Try.func18, Try.ntmps18
  go_upto_region 1 with (fail)
  rw [← HW2.out]
  have hx := boxW_at w2 t
  have HBx := boxW_below HB0.out t
  have HAx := HA0.out.below (boxW_next w2 t) HA0.out.lt
  have HZx := HZ0.out.below (boxW_next w2 t) HZ0.out.lt
  clear hA1
  have hA1 := HA0.out
  go_upto_region 2 with (first
    | (refine wpList_load_row rfl 27 _ rfl w.heap.size rfl 27 t.cs.toArray (0, 0) _ hA1 Try.underlying27 rfl (by kernel_rfl) ?_)
    | (with_reducible show wpList _ _ _ ({ dst := none, op := .store 27 _ _, type := _, pos := _, after := _, guard := _ } :: _) _ _
       refine wpList_store_row rfl 27 _ _ rfl w2.heap.size t.cs.toArray rfl rfl 27 Tr.blank.cs.toArray (At.new _ _ _) (by kernel_rfl) rfl hone ?_
       change wpList _ _ _ _ _ (boxW w2 t)) | fail)
  have HX0 := Lib.hid hx
  have HAx0 := Lib.hid HAx
  have HZx0 := Lib.hid HZx
  have HBx0 := Lib.hid HBx
  have hszx : (boxW w2 t).heap.size = w2.heap.size + 1 := boxW_size w2 t
  clear hx HAx HZx HBx hA1 HA0 HZ0 HB0 HW2
  generalize boxW w2 t = w3 at HX0 HAx0 HZx0 HBx0 hszx ⊢
  obtain ⟨g3, hg3⟩ : ∃ g3, g3 = w2.heap.size := ⟨_, rfl⟩
  rw [← hg3] at HX0 hszx HSz ⊢
  have HSx := Lib.hid hszx
  have HG3 : Hid (g3 = w.heap.size + 2) := HSz
  clear hg3 hszx HSz
  have q5 := HX0.out.cell 5
  have f5 := HX0.out.free 5
  rw [show t.cs.toArray[5]? = some (.slice t.addr t.n t.cap) from rfl] at q5
  go_upto_region 3 with (fail)
  have HX1 := Lib.hid (HX0.out.set 5 (.slice none 0 0))
  have HA1 := Lib.hid (HAx0.out.other (p := ⟨g3, 5, none⟩) (by have := HG3.out; dsimp only; omega) (.slice none 0 0))
  have HZ1 := Lib.hid (HZx0.out.other (p := ⟨g3, 5, none⟩) (by have := HG3.out; dsimp only; omega) (.slice none 0 0))
  have HB1 := Lib.hid (HBx0.out.setCell (p := ⟨g3, 5, none⟩) (by have := HG3.out; dsimp only; omega) (.slice none 0 0))
  have hS1 : (w3.setCell ⟨g3, 5, none⟩ (.slice none 0 0)).heap.size = g3 + 1 := by rw [← HSx.out]; simp
  clear q5 f5 HX0 HAx0 HZx0 HBx0 HSx
  generalize w3.setCell ⟨g3, 5, none⟩ (.slice none 0 0) = w4 at HX1 HA1 HZ1 HB1 hS1 ⊢
  have HS1 := Lib.hid hS1
  clear hS1
  have c5 := (At.tr_cell HA1.out).2.1
  rw [HN.out] at c5
  go_wp2_with fail
  go_loopw [11] (fun i wr => ∃ (j : Nat) (L : List Tr) (v : Value), j ≤ t.parts.length ∧ i = .int .i64 j ∧ L.length = j ∧ Hid (L.map (Tr.strip k) = (t.parts.take j).map (turnS k)) ∧ Hid (PartsOf wr (g3 + 1) v L k) ∧ Hid (At wr w.heap.size 27 t.cs.toArray) ∧ Hid (At wr (w.heap.size + 1) 27 Tr.blank.cs.toArray) ∧ Hid (At wr g3 27 (t.cs.toArray.setIfInBounds 5 v)) ∧ Hid (Below w.heap.size w wr)) (fun i _ => t.parts.length - (intOf i).toNat)
  case atStart => exact ⟨0, [], .slice none 0 0, Nat.zero_le _, rfl, rfl, Lib.hid (by simp),  Lib.hid (PartsOf.nil _ _ _), HA1, HZ1, HX1, HB1⟩
  case round =>
    clear HA1 HZ1 HX1 HB1 c5
    obtain ⟨j, L, v, hj, rfl, hLj, HO,  HP, HA, HZ, HX, HB⟩ := hrel
    by_cases hlt : j < t.parts.length
    · have c5 := (At.tr_cell HA.out).2.1
      obtain ⟨b, off, ha, hb, hr⟩ := HI.out.2.2.1 (by rw [HN.out]; omega)
      have HR := Lib.hid (range_below (hr j hlt) hb (Nat.le_refl _) HB.out)
      have HQ := Lib.hid (Tr.In.next (HI.out.2.2.2 j hlt) HB.out)
      have HSj := Lib.hid (HSl.out.2 _ (List.getElem_mem hlt))
      clear hr hb
      rw [ha, HN.out] at c5
      clear ha
      have HLj := Lib.hid hLj
      clear hLj
      have hjz : (0 : Int) ≤ (j : Int) := by omega
      have hjn : (j : Int) < (t.parts.length : Int) := by omega
      go_wp2_with (refine wpList_load_mid rfl 27 _ rfl b (off + j * 9) rfl t.parts[j].cs _ HR.out Try.underlying27 rfl (by rw [Tr.cs_length]; kernel_rfl) ?_)
      refine (HIH.out t.parts[j] _ HQ.out HSj.out).mono ?_
      rintro e w5 ⟨p, rfl, hin, hfr, hst, hb5⟩
      have hgl := HX.out.lt
      have hbB := boxW_next w5 p
      have HAp := Lib.hid (boxW_at w5 p)
      have HA6 := Lib.hid ((HA.out.below hb5 HA.out.lt).below hbB (by have := HA.out.lt; have := hb5.size; omega))
      have HZ6 := Lib.hid ((HZ.out.below hb5 HZ.out.lt).below hbB (by have := HZ.out.lt; have := hb5.size; omega))
      have HX6 := Lib.hid ((HX.out.below hb5 HX.out.lt).below hbB (by have := HX.out.lt; have := hb5.size; omega))
      have HB6 := Lib.hid ((HB.out.trans (hb5.mono HB.out.size)).trans (hbB.mono (Nat.le_trans HB.out.size hb5.size)))
      have HP6 := Lib.hid ((HP.out.next hb5).next hbB)
      have HIn := Lib.hid (hin.next hbB)
      have HFr := Lib.hid (hfr.lower (show g3 + 1 ≤ wr.heap.size by omega))
      have HOf : Hid (∀ g, v.ownBlock = some g → Tr.Off g k p) := Lib.hid (fun g hg => Tr.Off.from (HP.out.own.lt g hg).2 k p hfr)
      have HSt := Lib.hid hst
      have HS6 : Hid (w5.heap.size + 1 = (boxW w5 p).heap.size ∧ g3 < w5.heap.size) := Lib.hid ⟨(boxW_size w5 p).symm, by have := hb5.size; omega⟩
      have honep := Tr.one p
      have c0 := (At.tr_cell HA6.out).1
      rw [HK.out] at c0
      have q5 : (boxW w5 p).cell? ⟨g3, 5, none⟩ = some v := HX6.out.cell 5
      have f5 := HX6.out.free 5
      clear hb5 hin hfr hst c5 hgl hbB
      obtain ⟨gb, hgb⟩ : ∃ gb, gb = (boxW w5 p).heap.size := ⟨_, rfl⟩
      obtain ⟨w7, hw7⟩ : ∃ w7, w7 = (boxW w5 p).alloc (.cells p.cs.toArray 27) := ⟨_, rfl⟩
      have HW7 := Lib.hid hw7
      have HGb := Lib.hid hgb
      have hB7 : Below (boxW w5 p).heap.size (boxW w5 p) w7 := by rw [hw7]; exact (Below.refl _ _).alloc (Nat.le_refl _) _
      have hs7 : w7.heap.size = gb + 1 := by rw [hw7, hgb]; simp
      have HA7 := Lib.hid (HA6.out.below hB7 HA6.out.lt)
      have HZ7 := Lib.hid (HZ6.out.below hB7 HZ6.out.lt)
      have HX7 := Lib.hid (HX6.out.below hB7 HX6.out.lt)
      have HB7 := Lib.hid (HB6.out.trans (hB7.mono HB6.out.size))
      have HP7 := Lib.hid (HP6.out.next hB7)
      have HIn7 := Lib.hid (HIn.out.next hB7)
      have HAt7 : Hid (At w7 gb 27 p.cs.toArray) := Lib.hid (by rw [hw7, hgb]; exact At.new _ _ _)
      have HS7 := Lib.hid hs7
      have hgbs : g3 + 1 < gb := by have := HS6.out; omega
      have hLle : L.length < 2000 := by have := HLj.out; omega
      clear hB7 hs7 hw7 hgb
      go_wp2_with (first
        | (with_reducible show wpList _ _ _ ({ dst := none, op := .store 27 _ _, type := _, pos := _, after := _, guard := _ } :: _) _ _
           refine wpList_store_row rfl 27 _ _ rfl w5.heap.size p.cs.toArray rfl rfl 27 Tr.blank.cs.toArray (At.new _ _ _) (by kernel_rfl) rfl honep ?_
           change Exit.then _ _ _ _ (boxW w5 p))
        | (with_reducible show wpList _ _ _ ({ dst := _, op := .load 27 _, type := _, pos := _, after := _, guard := _ } :: _) _ _
           refine wpList_load_row rfl 27 _ rfl w5.heap.size rfl 27 p.cs.toArray (0, 0) _ HAp.out Try.underlying27 rfl (by kernel_rfl) ?_)
        | (with_reducible show wpList _ _ _ ({ dst := _, op := .buildSlice _ _ _, type := _, pos := _, after := _, guard := _ } :: _) _ _
           refine wpList_slice_tr rfl _ p rfl rfl ?_
           rw [← HW7.out, ← HGb.out])
        | (at_builtin
           refine wpList_append_lies _ rfl _ _ _ rfl (g3 + 1) 27 i0 _ 9 88 Try.underlying25 hi0 hz0 hz1 hz2 rfl (by omega) v L.length _ rfl HP7.out.own ⟨gb, 0, none⟩ 1 1 p.cs rfl rfl ?c1 ?c2 ?c6 ?c3 ?c4 ?c5 _ rfl ?_
           case c1 => exact fun i u hu => by rw [Addr.add_mid, Nat.zero_add]; exact (HAt7.out.cell i).trans (by simpa using hu)
           case c2 => exact fun u hu => by have := honep; rw [Array.all_eq_true_iff_forall_mem] at this; exact this u (by simpa using hu)
           case c6 => omega
           case c3 => unfold maxLen; omega
           case c4 => omega
           case c5 => rw [HS7.out]; omega
           intro g cap w8 hown8 hg8 hat8 hlt8
           have HX8 := Lib.hid (At.grown' HX7.out hg8 (fun e => by have := (HP7.out.own.lt g3 e.symm).1; omega))
           have q5 : w8.cell? ⟨g3, 5, none⟩ = some v := HX8.out.cell 5
           have f5 := HX8.out.free 5)
        | fail)
      have hO9 : Only g3 w8 (w8.setCell ⟨g3, 5, none⟩ (.slice (some ⟨g, 0, none⟩) (L.length + 1) cap)) := (Only.refl g3 w8).cell 5 _
      have hpu := PartsOf.push HP7.out HIn7.out HFr.out HOf.out hown8 hg8 hat8 (Nat.le_refl _)
      have hrow : ∀ b, v.ownBlock = some b → g3 + 1 ≤ b := fun b hb => (HP7.out.own.lt b hb).1
      refine ⟨⟨j + 1, L ++ [p], .slice (some ⟨g, 0, none⟩) (L.length + 1) cap, by omega, by go_num, by rw [List.length_append, HLj.out]; rfl, Lib.hid ?_, Lib.hid (hpu.only hO9 (by omega)), Lib.hid ?_, Lib.hid ?_, Lib.hid ?_, Lib.hid ?_⟩, by simp [intOf]; omega⟩
      · rw [List.map_append, HO.out, List.take_succ_eq_append_getElem hlt, List.map_append, List.map_singleton, List.map_singleton, HSt.out]
      · exact hO9.at (At.grown' HA7.out hg8 (fun e => by have := hrow _ e.symm; have := HG3.out; omega)) (by have := HG3.out; omega)
      · exact hO9.at (At.grown' HZ7.out hg8 (fun e => by have := hrow _ e.symm; have := HG3.out; omega)) (by have := HG3.out; omega)
      · have h5 := HX8.out.set 5 (.slice (some ⟨g, 0, none⟩) (L.length + 1) cap)
        rw [set5] at h5
        exact h5
      · exact (below_grown' HB7.out HB7.out.size hg8 (fun b hb => by have := hrow _ hb; have := HG3.out; omega)).trans (hO9.below (by have := HG3.out; omega))
    · obtain rfl : j = t.parts.length := by omega
      obtain ⟨A, c, hv, _⟩ := HP.out.form
      subst hv
      have ho := HO.out
      rw [List.take_length] at ho
      have HO2 : Hid (L.map (Tr.strip k) = (t.parts).map (turnS k)) := Lib.hid (by exact ho)
      have HLn : Hid (L.length ≤ 2000) := Lib.hid (by omega)
      clear ho hLj
      have hone2 := Tr.one (Tr.node 11 t.set A L.length c L t.lo t.hi t.neg)
      have c0 := (At.tr_cell HA.out).1
      rw [HK.out] at c0
      have x0 := HX.out.cell 0
      have f0 := HX.out.free 0
      rw [show (t.cs.toArray.setIfInBounds 5 (.slice A L.length c))[0]? = some (.int .i64 t.kind) from rfl] at x0
      have hXn : At (wr.setCell ⟨g3, 0, none⟩ (.int .i64 11)) g3 27 (Tr.node 11 t.set A L.length c L t.lo t.hi t.neg).cs.toArray := HX.out.set 0 _
      have hZn : At (wr.setCell ⟨g3, 0, none⟩ (.int .i64 11)) (w.heap.size + 1) 27 Tr.blank.cs.toArray := HZ.out.other (p := ⟨g3, 0, none⟩) (by have := HG3.out; dsimp only; omega) _
      have hBn : Below w.heap.size w (wr.setCell ⟨g3, 0, none⟩ (.int .i64 11)) := HB.out.setCell (p := ⟨g3, 0, none⟩) (by have := HG3.out; dsimp only; omega) _
      have hPn : PartsOf (wr.setCell ⟨g3, 0, none⟩ (.int .i64 11)) (g3 + 1) (.slice A L.length c) L k := HP.out.only ((Only.refl g3 wr).cell 0 _) (by omega)
      have HXn := Lib.hid hXn
      have HZn := Lib.hid hZn
      have HBn := Lib.hid hBn
      have HPn := Lib.hid hPn
      clear hXn hZn hBn hPn
      go_wp2_with (first
        | (with_reducible show wpList _ _ _ ({ dst := _, op := .load 27 _, type := _, pos := _, after := _, guard := _ } :: _) _ _
           refine wpList_load_row rfl 27 _ rfl g3 rfl 27 (Tr.node 11 t.set A L.length c L t.lo t.hi t.neg).cs.toArray (0, 0) _ HXn.out Try.underlying27 rfl (by kernel_rfl) ?_)
        | (with_reducible show wpList _ _ _ ({ dst := none, op := .store 27 _ _, type := _, pos := _, after := _, guard := _ } :: _) _ _
           refine wpList_store_row rfl 27 _ _ rfl (w.heap.size + 1) (Tr.node 11 t.set A L.length c L t.lo t.hi t.neg).cs.toArray rfl rfl 27 Tr.blank.cs.toArray HZn.out (by kernel_rfl) rfl hone2 ?_) | fail)
      have hO : Only (w.heap.size + 1) (wr.setCell ⟨g3, 0, none⟩ (.int .i64 11)) ((wr.setCell ⟨g3, 0, none⟩ (.int .i64 11)).setRow (w.heap.size + 1) (Tr.node 11 t.set A L.length c L t.lo t.hi t.neg).cs.toArray) := Only.row _ _ _
      obtain ⟨m1, m2, m3⟩ := listed_in (S := turnS) (parts := t.parts) (kd := 11) (lo := t.lo) (hi := t.hi) (neg := t.neg) HI.out.1.1 (by unfold I64; omega) HI.out.1.2.2.1 HI.out.1.2.2.2 HLn.out (HPn.out.only hO (by have := HG3.out; omega)) HO2.out
      exact bodyPost_ret (results_cell_row Try.results18 _ _ (w.heap.size + 1) 27 (Tr.node 11 t.set A L.length c L t.lo t.hi t.neg).cs.toArray (0, 0) _ rfl (HZn.out.row _) Try.underlying27 rfl (by kernel_rfl)) rfl ⟨_, rfl, m1, m2.lower (by have := HG3.out; omega), m3.trans (by show _ = Tr.node (turnKind t.kind) t.set none t.parts.length 0 (if t.kind = 3 then (t.parts.map (turnS k)).reverse else t.parts.map (turnS k)) t.lo t.hi t.neg; rw [HK.out]; rfl), HBn.out.trans (hO.below (by omega))⟩


set_option maxRecDepth 100000 in
set_option maxHeartbeats 1000000 in
theorem refTurn_11 (k : Nat) (ih : Makes 18 turnS k) (t : Tr) (w : World) (h : Tr.In w (k + 1) t) (hs : slimS (k + 1) t) (hk : t.kind = 11) :
    Calls Try.prog 18 #[.agg t.cs.toArray] w (Made turnS (k + 1) t w) := by
  have hn := h.2.1.1
  have HN := Lib.hid hn
  have HI := Lib.hid h
  have HIH := Lib.hid ih
  have HSl := Lib.hid hs
  have HK := Lib.hid hk
  obtain ⟨w2, hw2⟩ : ∃ w2, w2 = (w.alloc (.cells t.cs.toArray 27)).alloc (.cells #[.int .i64 0, .int .u64 0, .int .u64 0, .int .u64 0, .int .u64 0, .slice none 0 0, .int .i64 0, .int .i64 0, .bool false] 27) := ⟨_, rfl⟩
  have HA0 : Hid (At w2 w.heap.size 27 t.cs.toArray) := Lib.hid (by rw [hw2]; exact (At.new _ _ _).alloc _)
  have HZ0 : Hid (At w2 (w.heap.size + 1) 27 Tr.blank.cs.toArray) := Lib.hid (by rw [hw2]; exact at_new' (w.alloc (.cells t.cs.toArray 27)) (w.heap.size + 1) 27 (cs := Tr.blank.cs.toArray) (by simp))
  have HB0 : Hid (Below w.heap.size w w2) := Lib.hid (by rw [hw2]; exact below_two _ _)
  have HW2 := Lib.hid hw2
  have hsz2 : w2.heap.size = w.heap.size + 2 := by rw [hw2]; simp
  have HSz := Lib.hid hsz2
  have hA1 : At ((w.alloc (.cells t.cs.toArray 27)).alloc (.cells #[.int .i64 0, .int .u64 0, .int .u64 0, .int .u64 0, .int .u64 0, .slice none 0 0, .int .i64 0, .int .i64 0, .bool false] 27)) w.heap.size 27 t.cs.toArray := (At.new _ _ _).alloc _
  have hone := Tr.one t
  have hp2000 : t.parts.length ≤ 2000 := hs.1
  obtain ⟨i0, hi0, hz0, hz1, hz2⟩ := info_parts info_re
  clear h hs ih hn hk hw2 hsz2
  go_enter Try.func18, Try.ntmps18
  go_upto_region 1 with (fail)
  rw [← HW2.out]
  have hx := boxW_at w2 t
  have HBx := boxW_below HB0.out t
  have HAx := HA0.out.below (boxW_next w2 t) HA0.out.lt
  have HZx := HZ0.out.below (boxW_next w2 t) HZ0.out.lt
  clear hA1
  have hA1 := HA0.out
  go_upto_region 2 with (first
    | (refine wpList_load_row rfl 27 _ rfl w.heap.size rfl 27 t.cs.toArray (0, 0) _ hA1 Try.underlying27 rfl (by kernel_rfl) ?_)
    | (with_reducible show wpList _ _ _ ({ dst := none, op := .store 27 _ _, type := _, pos := _, after := _, guard := _ } :: _) _ _
       refine wpList_store_row rfl 27 _ _ rfl w2.heap.size t.cs.toArray rfl rfl 27 Tr.blank.cs.toArray (At.new _ _ _) (by kernel_rfl) rfl hone ?_
       change wpList _ _ _ _ _ (boxW w2 t)) | fail)
  have HX0 := Lib.hid hx
  have HAx0 := Lib.hid HAx
  have HZx0 := Lib.hid HZx
  have HBx0 := Lib.hid HBx
  have hszx : (boxW w2 t).heap.size = w2.heap.size + 1 := boxW_size w2 t
  clear hx HAx HZx HBx hA1 HA0 HZ0 HB0 HW2
  generalize boxW w2 t = w3 at HX0 HAx0 HZx0 HBx0 hszx ⊢
  obtain ⟨g3, hg3⟩ : ∃ g3, g3 = w2.heap.size := ⟨_, rfl⟩
  rw [← hg3] at HX0 hszx HSz ⊢
  have HSx := Lib.hid hszx
  have HG3 : Hid (g3 = w.heap.size + 2) := HSz
  clear hg3 hszx HSz
  have q5 := HX0.out.cell 5
  have f5 := HX0.out.free 5
  rw [show t.cs.toArray[5]? = some (.slice t.addr t.n t.cap) from rfl] at q5
  go_upto_region 3 with (fail)
  have HX1 := Lib.hid (HX0.out.set 5 (.slice none 0 0))
  have HA1 := Lib.hid (HAx0.out.other (p := ⟨g3, 5, none⟩) (by have := HG3.out; dsimp only; omega) (.slice none 0 0))
  have HZ1 := Lib.hid (HZx0.out.other (p := ⟨g3, 5, none⟩) (by have := HG3.out; dsimp only; omega) (.slice none 0 0))
  have HB1 := Lib.hid (HBx0.out.setCell (p := ⟨g3, 5, none⟩) (by have := HG3.out; dsimp only; omega) (.slice none 0 0))
  have hS1 : (w3.setCell ⟨g3, 5, none⟩ (.slice none 0 0)).heap.size = g3 + 1 := by rw [← HSx.out]; simp
  clear q5 f5 HX0 HAx0 HZx0 HBx0 HSx
  generalize w3.setCell ⟨g3, 5, none⟩ (.slice none 0 0) = w4 at HX1 HA1 HZ1 HB1 hS1 ⊢
  have HS1 := Lib.hid hS1
  clear hS1
  have c5 := (At.tr_cell HA1.out).2.1
  rw [HN.out] at c5
  go_wp2_with fail
  go_loopw [11] (fun i wr => ∃ (j : Nat) (L : List Tr) (v : Value), j ≤ t.parts.length ∧ i = .int .i64 j ∧ L.length = j ∧ Hid (L.map (Tr.strip k) = (t.parts.take j).map (turnS k)) ∧ Hid (PartsOf wr (g3 + 1) v L k) ∧ Hid (At wr w.heap.size 27 t.cs.toArray) ∧ Hid (At wr (w.heap.size + 1) 27 Tr.blank.cs.toArray) ∧ Hid (At wr g3 27 (t.cs.toArray.setIfInBounds 5 v)) ∧ Hid (Below w.heap.size w wr)) (fun i _ => t.parts.length - (intOf i).toNat)
  case atStart => exact ⟨0, [], .slice none 0 0, Nat.zero_le _, rfl, rfl, Lib.hid (by simp),  Lib.hid (PartsOf.nil _ _ _), HA1, HZ1, HX1, HB1⟩
  case round =>
    clear HA1 HZ1 HX1 HB1 c5
    obtain ⟨j, L, v, hj, rfl, hLj, HO,  HP, HA, HZ, HX, HB⟩ := hrel
    by_cases hlt : j < t.parts.length
    · have c5 := (At.tr_cell HA.out).2.1
      obtain ⟨b, off, ha, hb, hr⟩ := HI.out.2.2.1 (by rw [HN.out]; omega)
      have HR := Lib.hid (range_below (hr j hlt) hb (Nat.le_refl _) HB.out)
      have HQ := Lib.hid (Tr.In.next (HI.out.2.2.2 j hlt) HB.out)
      have HSj := Lib.hid (HSl.out.2 _ (List.getElem_mem hlt))
      clear hr hb
      rw [ha, HN.out] at c5
      clear ha
      have HLj := Lib.hid hLj
      clear hLj
      have hjz : (0 : Int) ≤ (j : Int) := by omega
      have hjn : (j : Int) < (t.parts.length : Int) := by omega
      go_wp2_with (refine wpList_load_mid rfl 27 _ rfl b (off + j * 9) rfl t.parts[j].cs _ HR.out Try.underlying27 rfl (by rw [Tr.cs_length]; kernel_rfl) ?_)
      refine (HIH.out t.parts[j] _ HQ.out HSj.out).mono ?_
      rintro e w5 ⟨p, rfl, hin, hfr, hst, hb5⟩
      have hgl := HX.out.lt
      have hbB := boxW_next w5 p
      have HAp := Lib.hid (boxW_at w5 p)
      have HA6 := Lib.hid ((HA.out.below hb5 HA.out.lt).below hbB (by have := HA.out.lt; have := hb5.size; omega))
      have HZ6 := Lib.hid ((HZ.out.below hb5 HZ.out.lt).below hbB (by have := HZ.out.lt; have := hb5.size; omega))
      have HX6 := Lib.hid ((HX.out.below hb5 HX.out.lt).below hbB (by have := HX.out.lt; have := hb5.size; omega))
      have HB6 := Lib.hid ((HB.out.trans (hb5.mono HB.out.size)).trans (hbB.mono (Nat.le_trans HB.out.size hb5.size)))
      have HP6 := Lib.hid ((HP.out.next hb5).next hbB)
      have HIn := Lib.hid (hin.next hbB)
      have HFr := Lib.hid (hfr.lower (show g3 + 1 ≤ wr.heap.size by omega))
      have HOf : Hid (∀ g, v.ownBlock = some g → Tr.Off g k p) := Lib.hid (fun g hg => Tr.Off.from (HP.out.own.lt g hg).2 k p hfr)
      have HSt := Lib.hid hst
      have HS6 : Hid (w5.heap.size + 1 = (boxW w5 p).heap.size ∧ g3 < w5.heap.size) := Lib.hid ⟨(boxW_size w5 p).symm, by have := hb5.size; omega⟩
      have honep := Tr.one p
      have c0 := (At.tr_cell HA6.out).1
      rw [HK.out] at c0
      have q5 : (boxW w5 p).cell? ⟨g3, 5, none⟩ = some v := HX6.out.cell 5
      have f5 := HX6.out.free 5
      clear hb5 hin hfr hst c5 hgl hbB
      obtain ⟨gb, hgb⟩ : ∃ gb, gb = (boxW w5 p).heap.size := ⟨_, rfl⟩
      obtain ⟨w7, hw7⟩ : ∃ w7, w7 = (boxW w5 p).alloc (.cells p.cs.toArray 27) := ⟨_, rfl⟩
      have HW7 := Lib.hid hw7
      have HGb := Lib.hid hgb
      have hB7 : Below (boxW w5 p).heap.size (boxW w5 p) w7 := by rw [hw7]; exact (Below.refl _ _).alloc (Nat.le_refl _) _
      have hs7 : w7.heap.size = gb + 1 := by rw [hw7, hgb]; simp
      have HA7 := Lib.hid (HA6.out.below hB7 HA6.out.lt)
      have HZ7 := Lib.hid (HZ6.out.below hB7 HZ6.out.lt)
      have HX7 := Lib.hid (HX6.out.below hB7 HX6.out.lt)
      have HB7 := Lib.hid (HB6.out.trans (hB7.mono HB6.out.size))
      have HP7 := Lib.hid (HP6.out.next hB7)
      have HIn7 := Lib.hid (HIn.out.next hB7)
      have HAt7 : Hid (At w7 gb 27 p.cs.toArray) := Lib.hid (by rw [hw7, hgb]; exact At.new _ _ _)
      have HS7 := Lib.hid hs7
      have hgbs : g3 + 1 < gb := by have := HS6.out; omega
      have hLle : L.length < 2000 := by have := HLj.out; omega
      clear hB7 hs7 hw7 hgb
      go_wp2_with (first
        | (with_reducible show wpList _ _ _ ({ dst := none, op := .store 27 _ _, type := _, pos := _, after := _, guard := _ } :: _) _ _
           refine wpList_store_row rfl 27 _ _ rfl w5.heap.size p.cs.toArray rfl rfl 27 Tr.blank.cs.toArray (At.new _ _ _) (by kernel_rfl) rfl honep ?_
           change Exit.then _ _ _ _ (boxW w5 p))
        | (with_reducible show wpList _ _ _ ({ dst := _, op := .load 27 _, type := _, pos := _, after := _, guard := _ } :: _) _ _
           refine wpList_load_row rfl 27 _ rfl w5.heap.size rfl 27 p.cs.toArray (0, 0) _ HAp.out Try.underlying27 rfl (by kernel_rfl) ?_)
        | (with_reducible show wpList _ _ _ ({ dst := _, op := .buildSlice _ _ _, type := _, pos := _, after := _, guard := _ } :: _) _ _
           refine wpList_slice_tr rfl _ p rfl rfl ?_
           rw [← HW7.out, ← HGb.out])
        | (at_builtin
           refine wpList_append_lies _ rfl _ _ _ rfl (g3 + 1) 27 i0 _ 9 88 Try.underlying25 hi0 hz0 hz1 hz2 rfl (by omega) v L.length _ rfl HP7.out.own ⟨gb, 0, none⟩ 1 1 p.cs rfl rfl ?c1 ?c2 ?c6 ?c3 ?c4 ?c5 _ rfl ?_
           case c1 => exact fun i u hu => by rw [Addr.add_mid, Nat.zero_add]; exact (HAt7.out.cell i).trans (by simpa using hu)
           case c2 => exact fun u hu => by have := honep; rw [Array.all_eq_true_iff_forall_mem] at this; exact this u (by simpa using hu)
           case c6 => omega
           case c3 => unfold maxLen; omega
           case c4 => omega
           case c5 => rw [HS7.out]; omega
           intro g cap w8 hown8 hg8 hat8 hlt8
           have HX8 := Lib.hid (At.grown' HX7.out hg8 (fun e => by have := (HP7.out.own.lt g3 e.symm).1; omega))
           have q5 : w8.cell? ⟨g3, 5, none⟩ = some v := HX8.out.cell 5
           have f5 := HX8.out.free 5)
        | fail)
      have hO9 : Only g3 w8 (w8.setCell ⟨g3, 5, none⟩ (.slice (some ⟨g, 0, none⟩) (L.length + 1) cap)) := (Only.refl g3 w8).cell 5 _
      have hpu := PartsOf.push HP7.out HIn7.out HFr.out HOf.out hown8 hg8 hat8 (Nat.le_refl _)
      have hrow : ∀ b, v.ownBlock = some b → g3 + 1 ≤ b := fun b hb => (HP7.out.own.lt b hb).1
      refine ⟨⟨j + 1, L ++ [p], .slice (some ⟨g, 0, none⟩) (L.length + 1) cap, by omega, by go_num, by rw [List.length_append, HLj.out]; rfl, Lib.hid ?_, Lib.hid (hpu.only hO9 (by omega)), Lib.hid ?_, Lib.hid ?_, Lib.hid ?_, Lib.hid ?_⟩, by simp [intOf]; omega⟩
      · rw [List.map_append, HO.out, List.take_succ_eq_append_getElem hlt, List.map_append, List.map_singleton, List.map_singleton, HSt.out]
      · exact hO9.at (At.grown' HA7.out hg8 (fun e => by have := hrow _ e.symm; have := HG3.out; omega)) (by have := HG3.out; omega)
      · exact hO9.at (At.grown' HZ7.out hg8 (fun e => by have := hrow _ e.symm; have := HG3.out; omega)) (by have := HG3.out; omega)
      · have h5 := HX8.out.set 5 (.slice (some ⟨g, 0, none⟩) (L.length + 1) cap)
        rw [set5] at h5
        exact h5
      · exact (below_grown' HB7.out HB7.out.size hg8 (fun b hb => by have := hrow _ hb; have := HG3.out; omega)).trans (hO9.below (by have := HG3.out; omega))
    · obtain rfl : j = t.parts.length := by omega
      obtain ⟨A, c, hv, _⟩ := HP.out.form
      subst hv
      have ho := HO.out
      rw [List.take_length] at ho
      have HO2 : Hid (L.map (Tr.strip k) = (t.parts).map (turnS k)) := Lib.hid (by exact ho)
      have HLn : Hid (L.length ≤ 2000) := Lib.hid (by omega)
      clear ho hLj
      have hone2 := Tr.one (Tr.node 10 t.set A L.length c L t.lo t.hi t.neg)
      have c0 := (At.tr_cell HA.out).1
      rw [HK.out] at c0
      have x0 := HX.out.cell 0
      have f0 := HX.out.free 0
      rw [show (t.cs.toArray.setIfInBounds 5 (.slice A L.length c))[0]? = some (.int .i64 t.kind) from rfl] at x0
      have hXn : At (wr.setCell ⟨g3, 0, none⟩ (.int .i64 10)) g3 27 (Tr.node 10 t.set A L.length c L t.lo t.hi t.neg).cs.toArray := HX.out.set 0 _
      have hZn : At (wr.setCell ⟨g3, 0, none⟩ (.int .i64 10)) (w.heap.size + 1) 27 Tr.blank.cs.toArray := HZ.out.other (p := ⟨g3, 0, none⟩) (by have := HG3.out; dsimp only; omega) _
      have hBn : Below w.heap.size w (wr.setCell ⟨g3, 0, none⟩ (.int .i64 10)) := HB.out.setCell (p := ⟨g3, 0, none⟩) (by have := HG3.out; dsimp only; omega) _
      have hPn : PartsOf (wr.setCell ⟨g3, 0, none⟩ (.int .i64 10)) (g3 + 1) (.slice A L.length c) L k := HP.out.only ((Only.refl g3 wr).cell 0 _) (by omega)
      have HXn := Lib.hid hXn
      have HZn := Lib.hid hZn
      have HBn := Lib.hid hBn
      have HPn := Lib.hid hPn
      clear hXn hZn hBn hPn
      go_wp2_with (first
        | (with_reducible show wpList _ _ _ ({ dst := _, op := .load 27 _, type := _, pos := _, after := _, guard := _ } :: _) _ _
           refine wpList_load_row rfl 27 _ rfl g3 rfl 27 (Tr.node 10 t.set A L.length c L t.lo t.hi t.neg).cs.toArray (0, 0) _ HXn.out Try.underlying27 rfl (by kernel_rfl) ?_)
        | (with_reducible show wpList _ _ _ ({ dst := none, op := .store 27 _ _, type := _, pos := _, after := _, guard := _ } :: _) _ _
           refine wpList_store_row rfl 27 _ _ rfl (w.heap.size + 1) (Tr.node 10 t.set A L.length c L t.lo t.hi t.neg).cs.toArray rfl rfl 27 Tr.blank.cs.toArray HZn.out (by kernel_rfl) rfl hone2 ?_) | fail)
      have hO : Only (w.heap.size + 1) (wr.setCell ⟨g3, 0, none⟩ (.int .i64 10)) ((wr.setCell ⟨g3, 0, none⟩ (.int .i64 10)).setRow (w.heap.size + 1) (Tr.node 10 t.set A L.length c L t.lo t.hi t.neg).cs.toArray) := Only.row _ _ _
      obtain ⟨m1, m2, m3⟩ := listed_in (S := turnS) (parts := t.parts) (kd := 10) (lo := t.lo) (hi := t.hi) (neg := t.neg) HI.out.1.1 (by unfold I64; omega) HI.out.1.2.2.1 HI.out.1.2.2.2 HLn.out (HPn.out.only hO (by have := HG3.out; omega)) HO2.out
      exact bodyPost_ret (results_cell_row Try.results18 _ _ (w.heap.size + 1) 27 (Tr.node 10 t.set A L.length c L t.lo t.hi t.neg).cs.toArray (0, 0) _ rfl (HZn.out.row _) Try.underlying27 rfl (by kernel_rfl)) rfl ⟨_, rfl, m1, m2.lower (by have := HG3.out; omega), m3.trans (by show _ = Tr.node (turnKind t.kind) t.set none t.parts.length 0 (if t.kind = 3 then (t.parts.map (turnS k)).reverse else t.parts.map (turnS k)) t.lo t.hi t.neg; rw [HK.out]; rfl), HBn.out.trans (hO.below (by omega))⟩


end Go.Proofs.Ytignekgckkdgiaa
