/- The parser: atoms, what stands behind them, and what stands ahead. -/
import Derived.Test.YtkbfoelffeocmaaParseD
namespace Go.Proofs.Ytkbfoelffeocmaa
open Go.RowKit
set_option linter.unusedSimpArgs false
set_option linter.unusedVariables false

set_option maxRecDepth 100000 in
set_option maxHeartbeats 8000000 in
theorem pAtom (W0 : World) (g E : Nat) (D : Value) (ds : List (ByteArray × Tr)) (n f : Nat) (m : PSt → Tr × PSt) (hD : DefsIn W0 D ds) (hE : E ≤ 20000) (hH0 : W0.heap.size ≤ g) (hor : PCalls 36 W0 g E D n (orS E m f)) (hgood : PGood n (orS E m f)) :
    PCalls 85 W0 g E D (n + 1) (atomS E ds m f) := by
  intro s w h hW hok hn ho1 ho2
  have HOR := Lib.hid hor
  have HGO := Lib.hid hgood
  have HWW := Lib.hid hW
  have HDD := Lib.hid hD
  obtain ⟨x, hx⟩ : ∃ x, peekS E s = x := ⟨_, rfl⟩
  have HX := Lib.hid hx
  have HAT : Hid (atomS E ds m f s = (if x.1.kind = 1 then (leafT 2 x.1.set false, nextS s)
    else if x.1.kind = 11 then lookS ds x (nextS s)
    else if x.1.kind = 16 then (leafT 10 ⟨0, 0, 0, 0⟩ false, nextS s)
    else if x.1.kind = 17 then (leafT 11 ⟨0, 0, 0, 0⟩ false, nextS s)
    else if x.1.kind = 2 then bracketS E m f x.2 (nextS s)
    else if x.1.kind = 12 ∨ x.1.kind = 13 then (nodeT 8 [(bracketS E m f x.2 (nextS s)).1] 0 0 (decide (x.1.kind = 13 ∨ x.1.kind = 15)), (bracketS E m f x.2 (nextS s)).2)
    else if x.1.kind = 14 ∨ x.1.kind = 15 then (nodeT 9 [(bracketS E m f x.2 (nextS s)).1] 0 0 (decide (x.1.kind = 13 ∨ x.1.kind = 15)), (bracketS E m f x.2 (nextS s)).2)
    else (leafT 0 ⟨0, 0, 0, 0⟩ false, failS x.2 2 (nextS s)))) := Lib.hid (by unfold atomS; rw [hx])
  have HNX : Hid (x.1.kind ≠ 0 → (x.1.set.Ok ∧ (nextS s).ws.length < n ∧ (nextS s).op + (nextS s).ws.length + 1 ≤ 20000)) := Lib.hid (fun hk => by
    have e := peek_some hx hk
    have e2 : s.ws.length = (nextS s).ws.length + 1 := by rw [e]; simp
    exact ⟨(hok x (by rw [e]; simp)).1, by omega, by rw [next_op]; omega⟩)
  have HOK := Lib.hid (hok.suffix (next_ws s))
  have HOP : Hid (0 ≤ (nextS s).op) := Lib.hid ho1
  obtain ⟨R, hR⟩ : ∃ R, atomS E ds m f s = R := ⟨_, rfl⟩
  rw [hR]
  rw [hR] at HAT
  clear hor hgood hW hD hok hn ho1 ho2 hx hR
  obtain ⟨w1, hw1⟩ : ∃ w1, w1 = w.alloc (.cells #[.int .i64 0, .int .u64 0, .int .u64 0, .int .u64 0, .int .u64 0, .slice none 0 0, .int .i64 0, .int .i64 0, .bool false] 34) := ⟨_, rfl⟩
  have hb1 : Below w.heap.size w w1 := by rw [hw1]; exact (Below.refl _ _).alloc (Nat.le_refl _) _
  have hz1 : At w1 w.heap.size 34 Tr.blank.cs.toArray := by rw [hw1]; exact At.new w 34 Tr.blank.cs.toArray
  have hsz1 : w1.heap.size = w.heap.size + 1 := by rw [hw1]; simp
  have HLT := Lib.hid h.lt
  have HNE : Hid (w.heap.size ≠ g) := Lib.hid (by have := HLT.out; omega)
  have HSZ := Lib.hid hsz1
  have HP_0 := Lib.hid (h.next hb1)
  have HZ_0 := Lib.hid hz1
  have HG_0 := Lib.hid (grownBy_below (grownBy_refl w (some g)) hb1)
  have HW1 := Lib.hid hw1
  clear hb1 hz1 hw1 h hsz1
  go_enter Try.func85, Try.ntmps85
  go_wp2_with fail
  rw [← HW1.out]
  refine (pNext g E D s _ HP_0.out hE).mono ?_
  rintro e w2 ⟨rfl, hp, hg⟩
  have HP_1 := Lib.hid (hp)
  have HG_1 := Lib.hid (grownBy_trans HG_0.out hg)
  have HZ_1 := Lib.hid (At.grown' HZ_0.out hg (fun q => by cases q; exact HNE.out rfl))
  clear hp hg
  rw [HX.out]
  have HNHBx : Hid (w2.heap.size ≠ g) := Lib.hid (by have := HP_1.out.lt; omega)
  have hb := boxWd_next w2 x.1 x.2
  have HP_2 := Lib.hid (HP_1.out.next hb)
  have HG_2 := Lib.hid (grownBy_below HG_1.out hb)
  have HZ_2 := Lib.hid (At.below HZ_1.out hb HZ_1.out.lt)
  have HBx_2 := Lib.hid (boxWd_at w2 x.1 x.2)
  have honeHBx := Wd.one x.1 x.2
  clear hb
  have c0 := HBx_2.out.cell 0
  rw [show (wdCells x.1 x.2)[0]? = some (.int .i64 x.1.kind) from rfl] at c0
  by_cases k1 : x.1.kind = 1
  · have HRR : Hid (R = (leafT 2 x.1.set false, nextS s)) := Lib.hid (by rw [HAT.out, if_pos k1])
    have hnx := HNX.out (by omega)
    have HNN := Lib.hid hnx
    rw [k1] at c0
    clear hnx k1
    have c2 := HBx_2.out.cell 2
    rw [show (wdCells x.1 x.2)[2]? = some (.int .u64 x.1.set.w0) from rfl] at c2
    have c3 := HBx_2.out.cell 3
    rw [show (wdCells x.1 x.2)[3]? = some (.int .u64 x.1.set.w1) from rfl] at c3
    have c4 := HBx_2.out.cell 4
    rw [show (wdCells x.1 x.2)[4]? = some (.int .u64 x.1.set.w2) from rfl] at c4
    have c5 := HBx_2.out.cell 5
    rw [show (wdCells x.1 x.2)[5]? = some (.int .u64 x.1.set.w3) from rfl] at c5
    have hone := Tr.one (leafT 2 x.1.set false)
    go_wp2_with (first
      | (with_reducible show wpList _ _ _ ({ dst := none, op := .store _ _ _, type := _, pos := _, after := _, guard := _ } :: _) _ _
         refine wpList_store_row rfl 57 _ _ rfl w2.heap.size (wdCells x.1 x.2) rfl rfl 57 (wdCells wd0 0) (At.new _ _ _) (by kernel_rfl) rfl honeHBx ?_
         change Exit.then _ _ _ _ (boxWd w2 x.1 x.2))
      | (with_reducible show wpList _ _ _ ({ dst := none, op := .store _ _ _, type := _, pos := _, after := _, guard := _ } :: _) _ _
         refine wpList_store_row rfl 34 _ _ rfl w.heap.size (leafT 2 x.1.set false).cs.toArray rfl rfl 34 Tr.blank.cs.toArray HZ_2.out (by kernel_rfl) rfl hone ?_)
      | fail)
    have ho : Only w.heap.size (boxWd w2 x.1 x.2) ((boxWd w2 x.1 x.2).setRow w.heap.size (leafT 2 x.1.set false).cs.toArray) := Only.row _ _ _
    exact bodyPost_ret (results_cell_row Try.results85 _ _ w.heap.size 34 (leafT 2 x.1.set false).cs.toArray (0, 0) _ rfl (HZ_2.out.row _) Try.underlying34 rfl (by kernel_rfl)) rfl ⟨(leafT 2 x.1.set false), rfl, by rw [HRR.out]; exact leaf_is _ _ _ _ _ _ HNN.out.1 (by unfold I64; omega), (by rw [HRR.out]; exact HP_2.out.keep (ho.below (Nat.le_refl _)) HLT.out), grownBy_from HG_2.out (ho.below (Nat.le_refl _)) (Nat.le_refl _)⟩
  by_cases k11 : x.1.kind = 11
  · have HRR : Hid (R = lookS ds x (nextS s)) := Lib.hid (by rw [HAT.out, if_neg k1, if_pos k11])
    have hnx := HNX.out (by omega)
    have HNN := Lib.hid hnx
    rw [k11] at c0
    clear hnx k1 k11
    go_wp2_with (first
      | (with_reducible show wpList _ _ _ ({ dst := none, op := .store _ _ _, type := _, pos := _, after := _, guard := _ } :: _) _ _
         refine wpList_store_row rfl 57 _ _ rfl w2.heap.size (wdCells x.1 x.2) rfl rfl 57 (wdCells wd0 0) (At.new _ _ _) (by kernel_rfl) rfl honeHBx ?_
         change Exit.then _ _ _ _ (boxWd w2 x.1 x.2))
      | (refine wpList_load_row rfl 57 _ rfl w2.heap.size rfl 57 (wdCells x.1 x.2) (0, 0) _ HBx_2.out Try.underlying57 rfl (by kernel_rfl) ?_)
      | fail)
    refine (pNamed W0 g E D ds HDD.out hH0 x (nextS s) _ HP_2.out (below_W HWW.out HG_2.out hH0 HLT.out)).mono ?_
    rintro e w4 ⟨t, rfl, hi, hp, hg⟩
    have HLHT := Lib.hid HP_2.out.lt
    have HMHT := Lib.hid HZ_2.out.lt
    have HQHT := Lib.hid hg.size
    have HP_3 := Lib.hid (hp)
    have HG_3 := Lib.hid (grownBy_trans HG_2.out hg)
    have HZ_3 := Lib.hid (At.grown' HZ_2.out hg (fun q => by cases q; exact HNE.out rfl))
    have HBx_3 := Lib.hid (At.grown' HBx_2.out hg (fun q => by cases q; exact HNHBx.out rfl))
    have HT_3 := Lib.hid (hi)
    clear hp hg hi
    have HP_3 : Hid (PAt w4 g E D R.2) := by rw [HRR.out]; exact HP_3
    have HT_3 : Hid (Tr.Is w4 W0.heap.size (boxWd w2 x.1 x.2).heap.size t R.1) := by rw [HRR.out]; exact HT_3
    have hone := Tr.one t
    go_wp2_with (first
      | (with_reducible show wpList _ _ _ ({ dst := none, op := .store _ _ _, type := _, pos := _, after := _, guard := _ } :: _) _ _
         refine wpList_store_row rfl 34 _ _ rfl w.heap.size t.cs.toArray rfl rfl 34 Tr.blank.cs.toArray HZ_3.out (by kernel_rfl) rfl hone ?_)
      | fail)
    have ho : Only w.heap.size w4 (w4.setRow w.heap.size t.cs.toArray) := Only.row _ _ _
    exact bodyPost_ret (results_cell_row Try.results85 _ _ w.heap.size 34 t.cs.toArray (0, 0) _ rfl (HZ_3.out.row _) Try.underlying34 rfl (by kernel_rfl)) rfl ⟨t, rfl, (HT_3.out.grown ho.grownBy (Nat.le_trans hH0 (Nat.le_of_lt HLT.out)) HMHT.out).lower (Nat.le_of_lt HMHT.out), HP_3.out.keep (ho.below (Nat.le_refl _)) HLT.out, grownBy_from HG_3.out (ho.below (Nat.le_refl _)) (Nat.le_refl _)⟩
  by_cases k16 : x.1.kind = 16
  · have HRR : Hid (R = (leafT 10 ⟨0, 0, 0, 0⟩ false, nextS s)) := Lib.hid (by rw [HAT.out, if_neg k1, if_neg k11, if_pos k16])
    have hnx := HNX.out (by omega)
    have HNN := Lib.hid hnx
    rw [k16] at c0
    clear hnx k1 k11 k16
    have hone := Tr.one (leafT 10 ⟨0, 0, 0, 0⟩ false)
    go_wp2_with (first
      | (with_reducible show wpList _ _ _ ({ dst := none, op := .store _ _ _, type := _, pos := _, after := _, guard := _ } :: _) _ _
         refine wpList_store_row rfl 57 _ _ rfl w2.heap.size (wdCells x.1 x.2) rfl rfl 57 (wdCells wd0 0) (At.new _ _ _) (by kernel_rfl) rfl honeHBx ?_
         change Exit.then _ _ _ _ (boxWd w2 x.1 x.2))
      | (with_reducible show wpList _ _ _ ({ dst := none, op := .store _ _ _, type := _, pos := _, after := _, guard := _ } :: _) _ _
         refine wpList_store_row rfl 34 _ _ rfl w.heap.size (leafT 10 ⟨0, 0, 0, 0⟩ false).cs.toArray rfl rfl 34 Tr.blank.cs.toArray HZ_2.out (by kernel_rfl) rfl hone ?_)
      | fail)
    have ho : Only w.heap.size (boxWd w2 x.1 x.2) ((boxWd w2 x.1 x.2).setRow w.heap.size (leafT 10 ⟨0, 0, 0, 0⟩ false).cs.toArray) := Only.row _ _ _
    exact bodyPost_ret (results_cell_row Try.results85 _ _ w.heap.size 34 (leafT 10 ⟨0, 0, 0, 0⟩ false).cs.toArray (0, 0) _ rfl (HZ_2.out.row _) Try.underlying34 rfl (by kernel_rfl)) rfl ⟨(leafT 10 ⟨0, 0, 0, 0⟩ false), rfl, by rw [HRR.out]; exact leaf_is _ _ _ _ _ _ zero_ok (by unfold I64; omega), (by rw [HRR.out]; exact HP_2.out.keep (ho.below (Nat.le_refl _)) HLT.out), grownBy_from HG_2.out (ho.below (Nat.le_refl _)) (Nat.le_refl _)⟩
  by_cases k17 : x.1.kind = 17
  · have HRR : Hid (R = (leafT 11 ⟨0, 0, 0, 0⟩ false, nextS s)) := Lib.hid (by rw [HAT.out, if_neg k1, if_neg k11, if_neg k16, if_pos k17])
    have hnx := HNX.out (by omega)
    have HNN := Lib.hid hnx
    rw [k17] at c0
    clear hnx k1 k11 k16 k17
    have hone := Tr.one (leafT 11 ⟨0, 0, 0, 0⟩ false)
    go_wp2_with (first
      | (with_reducible show wpList _ _ _ ({ dst := none, op := .store _ _ _, type := _, pos := _, after := _, guard := _ } :: _) _ _
         refine wpList_store_row rfl 57 _ _ rfl w2.heap.size (wdCells x.1 x.2) rfl rfl 57 (wdCells wd0 0) (At.new _ _ _) (by kernel_rfl) rfl honeHBx ?_
         change Exit.then _ _ _ _ (boxWd w2 x.1 x.2))
      | (with_reducible show wpList _ _ _ ({ dst := none, op := .store _ _ _, type := _, pos := _, after := _, guard := _ } :: _) _ _
         refine wpList_store_row rfl 34 _ _ rfl w.heap.size (leafT 11 ⟨0, 0, 0, 0⟩ false).cs.toArray rfl rfl 34 Tr.blank.cs.toArray HZ_2.out (by kernel_rfl) rfl hone ?_)
      | fail)
    have ho : Only w.heap.size (boxWd w2 x.1 x.2) ((boxWd w2 x.1 x.2).setRow w.heap.size (leafT 11 ⟨0, 0, 0, 0⟩ false).cs.toArray) := Only.row _ _ _
    exact bodyPost_ret (results_cell_row Try.results85 _ _ w.heap.size 34 (leafT 11 ⟨0, 0, 0, 0⟩ false).cs.toArray (0, 0) _ rfl (HZ_2.out.row _) Try.underlying34 rfl (by kernel_rfl)) rfl ⟨(leafT 11 ⟨0, 0, 0, 0⟩ false), rfl, by rw [HRR.out]; exact leaf_is _ _ _ _ _ _ zero_ok (by unfold I64; omega), (by rw [HRR.out]; exact HP_2.out.keep (ho.below (Nat.le_refl _)) HLT.out), grownBy_from HG_2.out (ho.below (Nat.le_refl _)) (Nat.le_refl _)⟩
  by_cases k2 : x.1.kind = 2
  · have HRR : Hid (R = bracketS E m f x.2 (nextS s)) := Lib.hid (by rw [HAT.out, if_neg k1, if_neg k11, if_neg k16, if_neg k17, if_pos k2])
    have hnx := HNX.out (by omega)
    have HNN := Lib.hid hnx
    rw [k2] at c0
    clear hnx k1 k11 k16 k17 k2
    have c1 := HBx_2.out.cell 1
    rw [show (wdCells x.1 x.2)[1]? = some (.int .i64 x.2) from rfl] at c1
    go_wp2_with (first
      | (with_reducible show wpList _ _ _ ({ dst := none, op := .store _ _ _, type := _, pos := _, after := _, guard := _ } :: _) _ _
         refine wpList_store_row rfl 57 _ _ rfl w2.heap.size (wdCells x.1 x.2) rfl rfl 57 (wdCells wd0 0) (At.new _ _ _) (by kernel_rfl) rfl honeHBx ?_
         change Exit.then _ _ _ _ (boxWd w2 x.1 x.2))
      | fail)
    refine (pBracket W0 g E D n f m hE hH0 HOR.out HGO.out x.2 (nextS s) _ HP_2.out (below_W HWW.out HG_2.out hH0 HLT.out) HOK.out HNN.out.2.1 HOP.out HNN.out.2.2).mono ?_
    rintro e w4 ⟨t, rfl, hi, hp, hg⟩
    have HLHT := Lib.hid HP_2.out.lt
    have HMHT := Lib.hid HZ_2.out.lt
    have HQHT := Lib.hid hg.size
    have HP_3 := Lib.hid (hp)
    have HG_3 := Lib.hid (grownBy_trans HG_2.out hg)
    have HZ_3 := Lib.hid (At.grown' HZ_2.out hg (fun q => by cases q; exact HNE.out rfl))
    have HBx_3 := Lib.hid (At.grown' HBx_2.out hg (fun q => by cases q; exact HNHBx.out rfl))
    have HT_3 := Lib.hid (hi)
    clear hp hg hi
    have HP_3 : Hid (PAt w4 g E D R.2) := by rw [HRR.out]; exact HP_3
    have HT_3 : Hid (Tr.Is w4 W0.heap.size (boxWd w2 x.1 x.2).heap.size t R.1) := by rw [HRR.out]; exact HT_3
    have hone := Tr.one t
    go_wp2_with (first
      | (with_reducible show wpList _ _ _ ({ dst := none, op := .store _ _ _, type := _, pos := _, after := _, guard := _ } :: _) _ _
         refine wpList_store_row rfl 34 _ _ rfl w.heap.size t.cs.toArray rfl rfl 34 Tr.blank.cs.toArray HZ_3.out (by kernel_rfl) rfl hone ?_)
      | fail)
    have ho : Only w.heap.size w4 (w4.setRow w.heap.size t.cs.toArray) := Only.row _ _ _
    exact bodyPost_ret (results_cell_row Try.results85 _ _ w.heap.size 34 t.cs.toArray (0, 0) _ rfl (HZ_3.out.row _) Try.underlying34 rfl (by kernel_rfl)) rfl ⟨t, rfl, (HT_3.out.grown ho.grownBy (Nat.le_trans hH0 (Nat.le_of_lt HLT.out)) HMHT.out).lower (Nat.le_of_lt HMHT.out), HP_3.out.keep (ho.below (Nat.le_refl _)) HLT.out, grownBy_from HG_3.out (ho.below (Nat.le_refl _)) (Nat.le_refl _)⟩
  by_cases k12 : x.1.kind = 12
  · have HRR : Hid (R = (nodeT 8 [(bracketS E m f x.2 (nextS s)).1] 0 0 (decide (x.1.kind = 13 ∨ x.1.kind = 15)), (bracketS E m f x.2 (nextS s)).2)) := Lib.hid (by rw [HAT.out, if_neg k1, if_neg k11, if_neg k16, if_neg k17, if_neg k2, if_pos (Or.inl k12)])
    have hnx := HNX.out (by omega)
    have HNN := Lib.hid hnx
    rw [k12] at c0
    clear hnx k1 k11 k16 k17 k2 k12
    go_wp2_with (first
      | (with_reducible show wpList _ _ _ ({ dst := none, op := .store _ _ _, type := _, pos := _, after := _, guard := _ } :: _) _ _
         refine wpList_store_row rfl 57 _ _ rfl w2.heap.size (wdCells x.1 x.2) rfl rfl 57 (wdCells wd0 0) (At.new _ _ _) (by kernel_rfl) rfl honeHBx ?_
         change Exit.then _ _ _ _ (boxWd w2 x.1 x.2))
      | (refine wpList_load_row rfl 57 _ rfl w2.heap.size rfl 57 (wdCells x.1 x.2) (0, 0) _ HBx_2.out Try.underlying57 rfl (by kernel_rfl) ?_)
      | fail)
    refine (pLook W0 g E D n f m hE hH0 HOR.out HGO.out x 8 (by omega) (nextS s) _ HP_2.out (below_W HWW.out HG_2.out hH0 HLT.out) HOK.out HNN.out.2.1 HOP.out HNN.out.2.2).mono ?_
    rintro e w4 ⟨t, rfl, hi, hp, hg⟩
    have HLHT := Lib.hid HP_2.out.lt
    have HMHT := Lib.hid HZ_2.out.lt
    have HQHT := Lib.hid hg.size
    have HP_3 := Lib.hid (hp)
    have HG_3 := Lib.hid (grownBy_trans HG_2.out hg)
    have HZ_3 := Lib.hid (At.grown' HZ_2.out hg (fun q => by cases q; exact HNE.out rfl))
    have HBx_3 := Lib.hid (At.grown' HBx_2.out hg (fun q => by cases q; exact HNHBx.out rfl))
    have HT_3 := Lib.hid (hi)
    clear hp hg hi
    have HP_3 : Hid (PAt w4 g E D R.2) := by rw [HRR.out]; exact HP_3
    have HT_3 : Hid (Tr.Is w4 W0.heap.size (boxWd w2 x.1 x.2).heap.size t R.1) := by rw [HRR.out]; exact HT_3
    have hone := Tr.one t
    go_wp2_with (first
      | (with_reducible show wpList _ _ _ ({ dst := none, op := .store _ _ _, type := _, pos := _, after := _, guard := _ } :: _) _ _
         refine wpList_store_row rfl 34 _ _ rfl w.heap.size t.cs.toArray rfl rfl 34 Tr.blank.cs.toArray HZ_3.out (by kernel_rfl) rfl hone ?_)
      | fail)
    have ho : Only w.heap.size w4 (w4.setRow w.heap.size t.cs.toArray) := Only.row _ _ _
    exact bodyPost_ret (results_cell_row Try.results85 _ _ w.heap.size 34 t.cs.toArray (0, 0) _ rfl (HZ_3.out.row _) Try.underlying34 rfl (by kernel_rfl)) rfl ⟨t, rfl, (HT_3.out.grown ho.grownBy (Nat.le_trans hH0 (Nat.le_of_lt HLT.out)) HMHT.out).lower (Nat.le_of_lt HMHT.out), HP_3.out.keep (ho.below (Nat.le_refl _)) HLT.out, grownBy_from HG_3.out (ho.below (Nat.le_refl _)) (Nat.le_refl _)⟩
  by_cases k13 : x.1.kind = 13
  · have HRR : Hid (R = (nodeT 8 [(bracketS E m f x.2 (nextS s)).1] 0 0 (decide (x.1.kind = 13 ∨ x.1.kind = 15)), (bracketS E m f x.2 (nextS s)).2)) := Lib.hid (by rw [HAT.out, if_neg k1, if_neg k11, if_neg k16, if_neg k17, if_neg k2, if_pos (Or.inr k13)])
    have hnx := HNX.out (by omega)
    have HNN := Lib.hid hnx
    rw [k13] at c0
    clear hnx k1 k11 k16 k17 k2 k12 k13
    go_wp2_with (first
      | (with_reducible show wpList _ _ _ ({ dst := none, op := .store _ _ _, type := _, pos := _, after := _, guard := _ } :: _) _ _
         refine wpList_store_row rfl 57 _ _ rfl w2.heap.size (wdCells x.1 x.2) rfl rfl 57 (wdCells wd0 0) (At.new _ _ _) (by kernel_rfl) rfl honeHBx ?_
         change Exit.then _ _ _ _ (boxWd w2 x.1 x.2))
      | (refine wpList_load_row rfl 57 _ rfl w2.heap.size rfl 57 (wdCells x.1 x.2) (0, 0) _ HBx_2.out Try.underlying57 rfl (by kernel_rfl) ?_)
      | fail)
    refine (pLook W0 g E D n f m hE hH0 HOR.out HGO.out x 8 (by omega) (nextS s) _ HP_2.out (below_W HWW.out HG_2.out hH0 HLT.out) HOK.out HNN.out.2.1 HOP.out HNN.out.2.2).mono ?_
    rintro e w4 ⟨t, rfl, hi, hp, hg⟩
    have HLHT := Lib.hid HP_2.out.lt
    have HMHT := Lib.hid HZ_2.out.lt
    have HQHT := Lib.hid hg.size
    have HP_3 := Lib.hid (hp)
    have HG_3 := Lib.hid (grownBy_trans HG_2.out hg)
    have HZ_3 := Lib.hid (At.grown' HZ_2.out hg (fun q => by cases q; exact HNE.out rfl))
    have HBx_3 := Lib.hid (At.grown' HBx_2.out hg (fun q => by cases q; exact HNHBx.out rfl))
    have HT_3 := Lib.hid (hi)
    clear hp hg hi
    have HP_3 : Hid (PAt w4 g E D R.2) := by rw [HRR.out]; exact HP_3
    have HT_3 : Hid (Tr.Is w4 W0.heap.size (boxWd w2 x.1 x.2).heap.size t R.1) := by rw [HRR.out]; exact HT_3
    have hone := Tr.one t
    go_wp2_with (first
      | (with_reducible show wpList _ _ _ ({ dst := none, op := .store _ _ _, type := _, pos := _, after := _, guard := _ } :: _) _ _
         refine wpList_store_row rfl 34 _ _ rfl w.heap.size t.cs.toArray rfl rfl 34 Tr.blank.cs.toArray HZ_3.out (by kernel_rfl) rfl hone ?_)
      | fail)
    have ho : Only w.heap.size w4 (w4.setRow w.heap.size t.cs.toArray) := Only.row _ _ _
    exact bodyPost_ret (results_cell_row Try.results85 _ _ w.heap.size 34 t.cs.toArray (0, 0) _ rfl (HZ_3.out.row _) Try.underlying34 rfl (by kernel_rfl)) rfl ⟨t, rfl, (HT_3.out.grown ho.grownBy (Nat.le_trans hH0 (Nat.le_of_lt HLT.out)) HMHT.out).lower (Nat.le_of_lt HMHT.out), HP_3.out.keep (ho.below (Nat.le_refl _)) HLT.out, grownBy_from HG_3.out (ho.below (Nat.le_refl _)) (Nat.le_refl _)⟩
  by_cases k14 : x.1.kind = 14
  · have HRR : Hid (R = (nodeT 9 [(bracketS E m f x.2 (nextS s)).1] 0 0 (decide (x.1.kind = 13 ∨ x.1.kind = 15)), (bracketS E m f x.2 (nextS s)).2)) := Lib.hid (by rw [HAT.out, if_neg k1, if_neg k11, if_neg k16, if_neg k17, if_neg k2, if_neg (show ¬(x.1.kind = 12 ∨ x.1.kind = 13) by omega), if_pos (Or.inl k14)])
    have hnx := HNX.out (by omega)
    have HNN := Lib.hid hnx
    rw [k14] at c0
    clear hnx k1 k11 k16 k17 k2 k12 k13 k14
    go_wp2_with (first
      | (with_reducible show wpList _ _ _ ({ dst := none, op := .store _ _ _, type := _, pos := _, after := _, guard := _ } :: _) _ _
         refine wpList_store_row rfl 57 _ _ rfl w2.heap.size (wdCells x.1 x.2) rfl rfl 57 (wdCells wd0 0) (At.new _ _ _) (by kernel_rfl) rfl honeHBx ?_
         change Exit.then _ _ _ _ (boxWd w2 x.1 x.2))
      | (refine wpList_load_row rfl 57 _ rfl w2.heap.size rfl 57 (wdCells x.1 x.2) (0, 0) _ HBx_2.out Try.underlying57 rfl (by kernel_rfl) ?_)
      | fail)
    refine (pLook W0 g E D n f m hE hH0 HOR.out HGO.out x 9 (by omega) (nextS s) _ HP_2.out (below_W HWW.out HG_2.out hH0 HLT.out) HOK.out HNN.out.2.1 HOP.out HNN.out.2.2).mono ?_
    rintro e w4 ⟨t, rfl, hi, hp, hg⟩
    have HLHT := Lib.hid HP_2.out.lt
    have HMHT := Lib.hid HZ_2.out.lt
    have HQHT := Lib.hid hg.size
    have HP_3 := Lib.hid (hp)
    have HG_3 := Lib.hid (grownBy_trans HG_2.out hg)
    have HZ_3 := Lib.hid (At.grown' HZ_2.out hg (fun q => by cases q; exact HNE.out rfl))
    have HBx_3 := Lib.hid (At.grown' HBx_2.out hg (fun q => by cases q; exact HNHBx.out rfl))
    have HT_3 := Lib.hid (hi)
    clear hp hg hi
    have HP_3 : Hid (PAt w4 g E D R.2) := by rw [HRR.out]; exact HP_3
    have HT_3 : Hid (Tr.Is w4 W0.heap.size (boxWd w2 x.1 x.2).heap.size t R.1) := by rw [HRR.out]; exact HT_3
    have hone := Tr.one t
    go_wp2_with (first
      | (with_reducible show wpList _ _ _ ({ dst := none, op := .store _ _ _, type := _, pos := _, after := _, guard := _ } :: _) _ _
         refine wpList_store_row rfl 34 _ _ rfl w.heap.size t.cs.toArray rfl rfl 34 Tr.blank.cs.toArray HZ_3.out (by kernel_rfl) rfl hone ?_)
      | fail)
    have ho : Only w.heap.size w4 (w4.setRow w.heap.size t.cs.toArray) := Only.row _ _ _
    exact bodyPost_ret (results_cell_row Try.results85 _ _ w.heap.size 34 t.cs.toArray (0, 0) _ rfl (HZ_3.out.row _) Try.underlying34 rfl (by kernel_rfl)) rfl ⟨t, rfl, (HT_3.out.grown ho.grownBy (Nat.le_trans hH0 (Nat.le_of_lt HLT.out)) HMHT.out).lower (Nat.le_of_lt HMHT.out), HP_3.out.keep (ho.below (Nat.le_refl _)) HLT.out, grownBy_from HG_3.out (ho.below (Nat.le_refl _)) (Nat.le_refl _)⟩
  by_cases k15 : x.1.kind = 15
  · have HRR : Hid (R = (nodeT 9 [(bracketS E m f x.2 (nextS s)).1] 0 0 (decide (x.1.kind = 13 ∨ x.1.kind = 15)), (bracketS E m f x.2 (nextS s)).2)) := Lib.hid (by rw [HAT.out, if_neg k1, if_neg k11, if_neg k16, if_neg k17, if_neg k2, if_neg (show ¬(x.1.kind = 12 ∨ x.1.kind = 13) by omega), if_pos (Or.inr k15)])
    have hnx := HNX.out (by omega)
    have HNN := Lib.hid hnx
    rw [k15] at c0
    clear hnx k1 k11 k16 k17 k2 k12 k13 k14 k15
    go_wp2_with (first
      | (with_reducible show wpList _ _ _ ({ dst := none, op := .store _ _ _, type := _, pos := _, after := _, guard := _ } :: _) _ _
         refine wpList_store_row rfl 57 _ _ rfl w2.heap.size (wdCells x.1 x.2) rfl rfl 57 (wdCells wd0 0) (At.new _ _ _) (by kernel_rfl) rfl honeHBx ?_
         change Exit.then _ _ _ _ (boxWd w2 x.1 x.2))
      | (refine wpList_load_row rfl 57 _ rfl w2.heap.size rfl 57 (wdCells x.1 x.2) (0, 0) _ HBx_2.out Try.underlying57 rfl (by kernel_rfl) ?_)
      | fail)
    refine (pLook W0 g E D n f m hE hH0 HOR.out HGO.out x 9 (by omega) (nextS s) _ HP_2.out (below_W HWW.out HG_2.out hH0 HLT.out) HOK.out HNN.out.2.1 HOP.out HNN.out.2.2).mono ?_
    rintro e w4 ⟨t, rfl, hi, hp, hg⟩
    have HLHT := Lib.hid HP_2.out.lt
    have HMHT := Lib.hid HZ_2.out.lt
    have HQHT := Lib.hid hg.size
    have HP_3 := Lib.hid (hp)
    have HG_3 := Lib.hid (grownBy_trans HG_2.out hg)
    have HZ_3 := Lib.hid (At.grown' HZ_2.out hg (fun q => by cases q; exact HNE.out rfl))
    have HBx_3 := Lib.hid (At.grown' HBx_2.out hg (fun q => by cases q; exact HNHBx.out rfl))
    have HT_3 := Lib.hid (hi)
    clear hp hg hi
    have HP_3 : Hid (PAt w4 g E D R.2) := by rw [HRR.out]; exact HP_3
    have HT_3 : Hid (Tr.Is w4 W0.heap.size (boxWd w2 x.1 x.2).heap.size t R.1) := by rw [HRR.out]; exact HT_3
    have hone := Tr.one t
    go_wp2_with (first
      | (with_reducible show wpList _ _ _ ({ dst := none, op := .store _ _ _, type := _, pos := _, after := _, guard := _ } :: _) _ _
         refine wpList_store_row rfl 34 _ _ rfl w.heap.size t.cs.toArray rfl rfl 34 Tr.blank.cs.toArray HZ_3.out (by kernel_rfl) rfl hone ?_)
      | fail)
    have ho : Only w.heap.size w4 (w4.setRow w.heap.size t.cs.toArray) := Only.row _ _ _
    exact bodyPost_ret (results_cell_row Try.results85 _ _ w.heap.size 34 t.cs.toArray (0, 0) _ rfl (HZ_3.out.row _) Try.underlying34 rfl (by kernel_rfl)) rfl ⟨t, rfl, (HT_3.out.grown ho.grownBy (Nat.le_trans hH0 (Nat.le_of_lt HLT.out)) HMHT.out).lower (Nat.le_of_lt HMHT.out), HP_3.out.keep (ho.below (Nat.le_refl _)) HLT.out, grownBy_from HG_3.out (ho.below (Nat.le_refl _)) (Nat.le_refl _)⟩
  have HRR : Hid (R = (leafT 0 ⟨0, 0, 0, 0⟩ false, failS x.2 2 (nextS s))) := Lib.hid (by rw [HAT.out, if_neg k1, if_neg k11, if_neg k16, if_neg k17, if_neg k2, if_neg (show ¬(x.1.kind = 12 ∨ x.1.kind = 13) by omega), if_neg (show ¬(x.1.kind = 14 ∨ x.1.kind = 15) by omega)])
  have nk1 := (int_ne k1).1
  have nk11 := (int_ne k11).1
  have nk16 := (int_ne k16).1
  have nk17 := (int_ne k17).1
  have nk2 := (int_ne k2).1
  have nk12 := (int_ne k12).1
  have nk13 := (int_ne k13).1
  have nk14 := (int_ne k14).1
  have nk15 := (int_ne k15).1
  clear k1 k11 k16 k17 k2 k12 k13 k14 k15
  have c1 := HBx_2.out.cell 1
  rw [show (wdCells x.1 x.2)[1]? = some (.int .i64 x.2) from rfl] at c1
  go_wp2_with (first
    | (with_reducible show wpList _ _ _ ({ dst := none, op := .store _ _ _, type := _, pos := _, after := _, guard := _ } :: _) _ _
       refine wpList_store_row rfl 57 _ _ rfl w2.heap.size (wdCells x.1 x.2) rfl rfl 57 (wdCells wd0 0) (At.new _ _ _) (by kernel_rfl) rfl honeHBx ?_
       change Exit.then _ _ _ _ (boxWd w2 x.1 x.2))
    | fail)
  refine (pFail g E D _ x.2 2 _ HP_2.out).mono ?_
  rintro e w4 ⟨rfl, hp, hg⟩
  have HP_3 := Lib.hid (hp)
  have HG_3 := Lib.hid (grownBy_trans HG_2.out hg)
  have HZ_3 := Lib.hid (At.grown' HZ_2.out hg (fun q => by cases q; exact HNE.out rfl))
  have HBx_3 := Lib.hid (At.grown' HBx_2.out hg (fun q => by cases q; exact HNHBx.out rfl))
  clear hp hg
  have hone := Tr.one (leafT 0 ⟨0, 0, 0, 0⟩ false)
  go_wp2_with (first
    | (with_reducible show wpList _ _ _ ({ dst := none, op := .store _ _ _, type := _, pos := _, after := _, guard := _ } :: _) _ _
       refine wpList_store_row rfl 34 _ _ rfl w.heap.size (leafT 0 ⟨0, 0, 0, 0⟩ false).cs.toArray rfl rfl 34 Tr.blank.cs.toArray HZ_3.out (by kernel_rfl) rfl hone ?_)
    | fail)
  have ho : Only w.heap.size w4 (w4.setRow w.heap.size (leafT 0 ⟨0, 0, 0, 0⟩ false).cs.toArray) := Only.row _ _ _
  exact bodyPost_ret (results_cell_row Try.results85 _ _ w.heap.size 34 (leafT 0 ⟨0, 0, 0, 0⟩ false).cs.toArray (0, 0) _ rfl (HZ_3.out.row _) Try.underlying34 rfl (by kernel_rfl)) rfl ⟨(leafT 0 ⟨0, 0, 0, 0⟩ false), rfl, by rw [HRR.out]; exact leaf_is _ _ _ _ _ _ zero_ok I64_zero, (by rw [HRR.out]; exact HP_3.out.keep (ho.below (Nat.le_refl _)) HLT.out), grownBy_from HG_3.out (ho.below (Nat.le_refl _)) (Nat.le_refl _)⟩
set_option maxRecDepth 100000 in
set_option maxHeartbeats 8000000 in
theorem pPost (W0 : World) (g E : Nat) (D : Value) (ds : List (ByteArray × Tr)) (n f : Nat) (m : PSt → Tr × PSt) (hE : E ≤ 20000) (hH0 : W0.heap.size ≤ g) (hat : PCalls 85 W0 g E D n (atomS E ds m f)) (hgood : PGood n (atomS E ds m f)) (hf : n ≤ f) :
    PCalls 79 W0 g E D n (postS E ds m f) := by
  intro s w h hW hok hn ho1 ho2
  have HAT := Lib.hid hat
  have HWW := Lib.hid hW
  have HOK := Lib.hid hok
  have HOP : Hid (0 ≤ s.op ∧ s.op + s.ws.length ≤ 20000 ∧ s.ws.length < n) := Lib.hid ⟨ho1, ho2, hn⟩
  have hg := hgood s hn
  have HG2 : Hid ((atomS E ds m f s).2.ws.length < f ∧ WsOk (atomS E ds m f s).2.ws) := Lib.hid ⟨by have := hg.1.length_le; omega, hok.suffix hg.1⟩
  obtain ⟨R, hR⟩ : ∃ R, postS E ds m f s = R := ⟨_, rfl⟩
  have HR : Hid (postsS E f (atomS E ds m f s).1 (atomS E ds m f s).2 = R) := Lib.hid (by rw [← hR]; rfl)
  rw [hR]
  clear hat hgood hW hok hn ho1 ho2 hg hR
  obtain ⟨w1, hw1⟩ : ∃ w1, w1 = w.alloc (.cells #[.int .i64 0, .int .u64 0, .int .u64 0, .int .u64 0, .int .u64 0, .slice none 0 0, .int .i64 0, .int .i64 0, .bool false] 34) := ⟨_, rfl⟩
  have hb1 : Below w.heap.size w w1 := by rw [hw1]; exact (Below.refl _ _).alloc (Nat.le_refl _) _
  have hz1 : At w1 w.heap.size 34 Tr.blank.cs.toArray := by rw [hw1]; exact At.new w 34 Tr.blank.cs.toArray
  have hsz1 : w1.heap.size = w.heap.size + 1 := by rw [hw1]; simp
  have HLT := Lib.hid h.lt
  have HNE : Hid (w.heap.size ≠ g) := Lib.hid (by have := HLT.out; omega)
  have HSZ := Lib.hid hsz1
  have HP_0 := Lib.hid (h.next hb1)
  have HZ_0 := Lib.hid hz1
  have HG_0 := Lib.hid (grownBy_below (grownBy_refl w (some g)) hb1)
  have HW1 := Lib.hid hw1
  clear hb1 hz1 hw1 h hsz1
  go_enter Try.func79, Try.ntmps79
  go_wp2_with fail
  rw [← HW1.out]
  refine (HAT.out s _ HP_0.out (below_W HWW.out HG_0.out hH0 HLT.out) HOK.out HOP.out.2.2 HOP.out.1 HOP.out.2.1).mono ?_
  rintro e w2 ⟨t, rfl, hi, hp, hg⟩
  have HLHT := Lib.hid HP_0.out.lt
  have HMHT := Lib.hid HZ_0.out.lt
  have HQHT := Lib.hid hg.size
  have HP_1 := Lib.hid (hp)
  have HG_1 := Lib.hid (grownBy_trans HG_0.out hg)
  have HZ_1 := Lib.hid (At.grown' HZ_0.out hg (fun q => by cases q; exact HNE.out rfl))
  have HT_1 := Lib.hid (hi)
  clear hp hg hi
  have HNHBt : Hid (w2.heap.size ≠ g) := Lib.hid (by have := HP_1.out.lt; omega)
  have hb := boxW_next w2 t
  have HP_2 := Lib.hid (HP_1.out.next hb)
  have HG_2 := Lib.hid (grownBy_below HG_1.out hb)
  have HZ_2 := Lib.hid (At.below HZ_1.out hb HZ_1.out.lt)
  have HT_2 := Lib.hid (HT_1.out.next hb)
  have HBt_2 := Lib.hid (boxW_at w2 t)
  have honeHBt := Tr.one t
  clear hb
  go_wp2_with (first
    | (with_reducible show wpList _ _ _ ({ dst := none, op := .store _ _ _, type := _, pos := _, after := _, guard := _ } :: _) _ _
       refine wpList_store_row rfl 34 _ _ rfl w2.heap.size t.cs.toArray rfl rfl 34 Tr.blank.cs.toArray (At.new _ _ _) (by kernel_rfl) rfl honeHBt ?_
       change Exit.then _ _ _ _ (boxW w2 t))
    | fail)
  have HTB0 := Lib.hid ((HT_1.out.new w2.heap.size (w2.heap.size + 1) (Nat.le_refl _)).next (boxW_next w2 t))
  generalize atomS E ds m f s = a0 at HR HG2 HP_2 HT_2 HT_1 HTB0
  obtain ⟨T0, s0⟩ := a0
  obtain ⟨B, hB⟩ : ∃ B, B = w2.heap.size := ⟨_, rfl⟩
  have HBB : Hid (w1.heap.size ≤ B) := Lib.hid (by rw [hB]; exact HQHT.out)
  rw [← hB] at HBt_2 HNHBt HTB0
  rw [← hB]
  clear hB
  dsimp only [Act.put]
  go_loopw [] (fun wr => ∃ (q : Nat) (s : PSt) (t T : Tr), Hid (postsS E q T s = R) ∧ Hid (s.ws.length < q) ∧ Hid (WsOk s.ws) ∧ Hid (PAt wr g E D s) ∧ Hid (w.grownBy wr (some g)) ∧ Hid (At wr w.heap.size 34 Tr.blank.cs.toArray) ∧ Hid (At wr B 34 t.cs.toArray) ∧ Hid (Tr.Is wr W0.heap.size w1.heap.size t T) ∧ Hid (Tr.Is wr B (B + 1) t T)) (fun wr => lenAt wr g)
  case atStart => exact ⟨f, s0, t, T0, HR, HG2.out.1, HG2.out.2, HP_2, HG_2, HZ_2, HBt_2, HT_2, HTB0⟩
  case round =>
    obtain ⟨q, s1, t1, T1, HR1, HQ, HO, HP, HG, HZ, HBt, HT, HTB⟩ := hrel
    obtain ⟨x, hx⟩ : ∃ x, peekS E s1 = x := ⟨_, rfl⟩
    have HX1 := Lib.hid hx
    obtain ⟨y, hy⟩ : ∃ y, timesW x.1 = y := ⟨_, rfl⟩
    have HY := Lib.hid hy
    have HLN : Hid (lenAt wr g = s1.ws.length) := Lib.hid HP.out.len
    clear hx hy
    have honet := Tr.one t1
    go_wp2_with fail
    refine (pPeek g E D s1 wr HP.out hE).mono ?_
    rintro e w4 ⟨rfl, hb⟩
    have HP_4 := Lib.hid (HP.out.next hb)
    have HG_4 := Lib.hid (grownBy_below HG.out hb)
    have HZ_4 := Lib.hid (At.below HZ.out hb HZ.out.lt)
    have HBt_4 := Lib.hid (At.below HBt.out hb HBt.out.lt)
    have HT_4 := Lib.hid (HT.out.next hb)
    have HTB_4 := Lib.hid (HTB.out.next hb)
    rw [HX1.out]
    clear hb
    go_wp2_with fail
    refine (pBounds x.1 x.2 w4).mono ?_
    rintro e w5 ⟨rfl, hb⟩
    rw [HY.out]
    have HP_5 := Lib.hid (HP_4.out.next hb)
    have HG_5 := Lib.hid (grownBy_below HG_4.out hb)
    have HZ_5 := Lib.hid (At.below HZ_4.out hb HZ_4.out.lt)
    have HBt_5 := Lib.hid (At.below HBt_4.out hb HBt_4.out.lt)
    have HT_5 := Lib.hid (HT_4.out.next hb)
    have HTB_5 := Lib.hid (HTB_4.out.next hb)
    clear hb
    obtain ⟨lo, hi, ok⟩ := y
    cases ok with
    | false =>
      have HRR : Hid (R = (T1, s1)) := Lib.hid (by
        rw [← HR1.out]
        cases q with
        | zero => exact absurd HQ.out (Nat.not_lt_zero _)
        | succ q =>
          show (if (timesW (peekS E s1).1).2.2 then _ else _) = _
          rw [HX1.out, HY.out]; rfl)
      go_wp2_with (first
        | (refine wpList_load_row rfl 34 _ rfl B rfl 34 t1.cs.toArray (0, 0) _ HBt_5.out Try.underlying34 rfl (by kernel_rfl) ?_)
        | (with_reducible show wpList _ _ _ ({ dst := none, op := .store _ _ _, type := _, pos := _, after := _, guard := _ } :: _) _ _
           refine wpList_store_row rfl 34 _ _ rfl w.heap.size t1.cs.toArray rfl rfl 34 Tr.blank.cs.toArray HZ_5.out (by kernel_rfl) rfl honet ?_)
        | fail)
      have ho : Only w.heap.size w5 (w5.setRow w.heap.size t1.cs.toArray) := Only.row _ _ _
      exact bodyPost_ret (results_cell_row Try.results79 _ _ w.heap.size 34 t1.cs.toArray (0, 0) _ rfl (HZ_5.out.row _) Try.underlying34 rfl (by kernel_rfl)) rfl ⟨t1, rfl, by rw [HRR.out]; exact (HT_5.out.grown ho.grownBy (Nat.le_trans hH0 (Nat.le_of_lt HLT.out)) (by have := HSZ.out; omega)).lower (by have := HSZ.out; omega), by rw [HRR.out]; exact HP_5.out.keep (ho.below (Nat.le_refl _)) HLT.out, grownBy_from HG_5.out (ho.below (Nat.le_refl _)) (Nat.le_refl _)⟩
    | true =>
      have hk0 : x.1.kind ≠ 0 := fun e => by
        have := HY.out
        unfold timesW at this
        rw [if_neg (by omega), if_neg (by omega), if_neg (by omega), if_neg (by omega)] at this
        injection this with _ this; injection this with _ this; cases this
      have hws := peek_some HX1.out hk0
      have HI : Hid (I64 lo ∧ I64 hi) := Lib.hid (by
        have := HY.out
        have hxo := HO.out x (by rw [hws]; simp)
        unfold timesW at this
        unfold I64 at hxo ⊢
        (repeat' split at this) <;> (injection this with a b; injection b with b c; subst a; subst b; omega))
      have hlen : s1.ws.length = (nextS s1).ws.length + 1 := by rw [hws]; simp
      have HLE := Lib.hid hlen
      obtain ⟨q', hq'⟩ : ∃ q', q = q' + 1 := ⟨q - 1, by have := HQ.out; omega⟩
      subst hq'
      have HRR : Hid (postsS E q' (nodeT 7 [T1] lo hi false) (nextS s1) = R) := Lib.hid (by
        rw [← HR1.out]
        show _ = (if (timesW (peekS E s1).1).2.2 then _ else _)
        rw [HX1.out, HY.out]; rfl)
      clear hk0 hws hlen
      go_wp2_with fail
      refine (pNext g E D s1 _ HP_5.out hE).mono ?_
      rintro e w6 ⟨rfl, hp, hg⟩
      have HP_6 := Lib.hid hp
      have HG_6 := Lib.hid (grownBy_trans HG_5.out hg)
      have HZ_6 := Lib.hid (At.grown' HZ_5.out hg (fun q => by cases q; exact HNE.out rfl))
      have HBt_6 := Lib.hid (At.grown' HBt_5.out hg (fun q => by cases q; exact HNHBt.out rfl))
      have HT_6 := Lib.hid (HT_5.out.grown hg hH0 (by have := HLT.out; have := HSZ.out; omega))
      have HTB_6 := Lib.hid (HTB_5.out.grown2 HT_5.out hg hH0 (by have := HLT.out; have := HSZ.out; omega))
      have hsz6 : B + 1 ≤ w6.heap.size := HBt_6.out.lt
      clear hp hg
      have HN1 := Lib.hid (one_node (kd := 7) (lo := lo) (hi' := hi) (neg := false) HT_6.out (by have := HBB.out; omega) (by unfold I64; omega) HI.out.1 HI.out.2)
      have HN2 := Lib.hid (one_node (kd := 7) (lo := lo) (hi' := hi) (neg := false) HTB_6.out hsz6 (by unfold I64; omega) HI.out.1 HI.out.2)
      obtain ⟨w7, hw⟩ : ∃ w9, w9 = w6.alloc (.cells t1.cs.toArray 34) := ⟨_, rfl⟩
      have hb : Below w6.heap.size w6 w7 := by rw [hw]; exact (Below.refl _ _).alloc (Nat.le_refl _) _
      have HWS := Lib.hid hw
      rw [← hw] at HN1 HN2
      have HP_7 := Lib.hid (HP_6.out.next hb)
      have HG_7 := Lib.hid (grownBy_below HG_6.out hb)
      have HZ_7 := Lib.hid (At.below HZ_6.out hb HZ_6.out.lt)
      have HBt_7 := Lib.hid (At.below HBt_6.out hb HBt_6.out.lt)
      clear hb hw
      have hone7 := Tr.one (Tr.node 7 ⟨0, 0, 0, 0⟩ (some ⟨w6.heap.size, 0, none⟩) 1 1 [t1] lo hi false)
      go_wp2_with (first
        | (refine wpList_load_row rfl 34 _ rfl B rfl 34 t1.cs.toArray (0, 0) _ HBt_6.out Try.underlying34 rfl (by kernel_rfl) ?_)
        | (with_reducible show wpList _ _ _ ({ dst := _, op := .buildSlice _ _ _, type := _, pos := _, after := _, guard := _ } :: _) _ _
           refine wpList_slice_tr rfl _ t1 rfl rfl ?_
           rw [← HWS.out])
        | (with_reducible show wpList _ _ _ ({ dst := none, op := .store _ _ _, type := _, pos := _, after := _, guard := _ } :: _) _ _
           refine wpList_store_row rfl 34 _ _ rfl B (Tr.node 7 ⟨0, 0, 0, 0⟩ (some ⟨w6.heap.size, 0, none⟩) 1 1 [t1] lo hi false).cs.toArray rfl rfl 34 t1.cs.toArray HBt_7.out (by kernel_rfl) rfl hone7 ?_)
        | fail)
      have ho : Only B w7 (w7.setRow B (Tr.node 7 ⟨0, 0, 0, 0⟩ (some ⟨w6.heap.size, 0, none⟩) 1 1 [t1] lo hi false).cs.toArray) := Only.row _ _ _
      have hzB : w.heap.size < B := by have := HSZ.out; have := HBB.out; omega
      have hP8 := HP_7.out.keep (ho.below (Nat.le_refl B)) (by have := HLT.out; omega)
      dsimp only [Act.put]
      go_roundw
      case rel => exact ⟨q', nextS s1, _, _, HRR, Lib.hid (by have := HQ.out; have := HLE.out; omega), Lib.hid (HO.out.suffix (next_ws s1)), hP8, Lib.hid (grownBy_from HG_7.out (ho.below (Nat.le_refl B)) (by omega)), Lib.hid (HZ_7.out.rowOther (by omega) _), Lib.hid (HBt_7.out.row _), Lib.hid (HN1.out.grown2 HN2.out ho.grownBy (Nat.le_refl B) (Nat.lt_succ_self B)), Lib.hid (HN2.out.grown ho.grownBy (Nat.le_refl B) (Nat.lt_succ_self B))⟩
      case measure =>
        rw [hP8.len, HLN.out]
        have := HLE.out
        omega
set_option maxRecDepth 100000 in
set_option maxHeartbeats 8000000 in
theorem pNot (W0 : World) (g E : Nat) (D : Value) (ds : List (ByteArray × Tr)) (f : Nat) (hE : E ≤ 20000) (hH0 : W0.heap.size ≤ g) (ih : PCalls 75 W0 g E D f (notS E ds f)) (hgood : PGood f (notS E ds f)) (hpost : PCalls 79 W0 g E D (f + 1) (postS E ds (notS E ds f) (f + 1))) :
    PCalls 75 W0 g E D (f + 1) (notS E ds (f + 1)) := by
  intro s w h hW hok hn ho1 ho2
  have HIH := Lib.hid ih
  have HPO := Lib.hid hpost
  have HWW := Lib.hid hW
  have HOK := Lib.hid hok
  obtain ⟨x, hx⟩ : ∃ x, peekS E s = x := ⟨_, rfl⟩
  have HX := Lib.hid hx
  have HOP : Hid (0 ≤ s.op ∧ s.op + s.ws.length ≤ 20000 ∧ s.ws.length < f + 1) := Lib.hid ⟨ho1, ho2, hn⟩
  obtain ⟨R, hR⟩ : ∃ R, notS E ds (f + 1) s = R := ⟨_, rfl⟩
  have HR : Hid (R = (if x.1.kind = 6 then
        (nodeT 6 [(notS E ds f (enterS x.2 (nextS s))).1] 0 0 false, leaveS (notS E ds f (enterS x.2 (nextS s))).2)
      else postS E ds (notS E ds f) (f + 1) s)) := Lib.hid (by rw [← hR, ← hx]; rfl)
  rw [hR]
  have HGD := Lib.hid hgood
  clear ih hgood hpost hW hok hn ho1 ho2 hR hx
  obtain ⟨w1, hw1⟩ : ∃ w1, w1 = w.alloc (.cells #[.int .i64 0, .int .u64 0, .int .u64 0, .int .u64 0, .int .u64 0, .slice none 0 0, .int .i64 0, .int .i64 0, .bool false] 34) := ⟨_, rfl⟩
  have hb1 : Below w.heap.size w w1 := by rw [hw1]; exact (Below.refl _ _).alloc (Nat.le_refl _) _
  have hz1 : At w1 w.heap.size 34 Tr.blank.cs.toArray := by rw [hw1]; exact At.new w 34 Tr.blank.cs.toArray
  have hsz1 : w1.heap.size = w.heap.size + 1 := by rw [hw1]; simp
  have HLT := Lib.hid h.lt
  have HNE : Hid (w.heap.size ≠ g) := Lib.hid (by have := HLT.out; omega)
  have HSZ := Lib.hid hsz1
  have HP_0 := Lib.hid (h.next hb1)
  have HZ_0 := Lib.hid hz1
  have HG_0 := Lib.hid (grownBy_below (grownBy_refl w (some g)) hb1)
  have HW1 := Lib.hid hw1
  clear hb1 hz1 hw1 h hsz1
  go_enter Try.func75, Try.ntmps75
  go_wp2_with fail
  rw [← HW1.out]
  refine (pPeek g E D s _ HP_0.out hE).mono ?_
  rintro e w2 ⟨rfl, hb⟩
  have HP_1 := Lib.hid (HP_0.out.next hb)
  have HG_1 := Lib.hid (grownBy_below HG_0.out hb)
  have HZ_1 := Lib.hid (At.below HZ_0.out hb HZ_0.out.lt)
  clear hb
  rw [HX.out]
  have hfk := field_at x.1 x.2 w2
  go_wp2_with fail
  clear hfk
  refine (pTake g E D s 6 w2 HP_1.out hE).mono ?_
  rintro e w3 ⟨rfl, hp, hg⟩
  have HP_2 := Lib.hid (hp)
  have HG_2 := Lib.hid (grownBy_trans HG_1.out hg)
  have HZ_2 := Lib.hid (At.grown' HZ_1.out hg (fun q => by cases q; exact HNE.out rfl))
  clear hp hg
  by_cases h6 : x.1.kind = 6
  · have HTK : Hid (takeS E 6 s = (true, nextS s)) := Lib.hid (by unfold takeS; rw [HX.out, if_pos h6])
    have HRR : Hid (R = (nodeT 6 [(notS E ds f (enterS x.2 (nextS s))).1] 0 0 false, leaveS (notS E ds f (enterS x.2 (nextS s))).2)) := Lib.hid (by rw [HR.out, if_pos h6])
    have hne0 := peek_some HX.out (by omega)
    have hl1 : s.ws.length = (nextS s).ws.length + 1 := by rw [hne0]; simp
    have e1 := enter_ws x.2 (nextS s)
    have e2 := enter_op x.2 (nextS s)
    have e4 := e1.length_le
    have e3 := HGD.out (enterS x.2 (nextS s)) (by have := HOP.out; omega)
    have HEN : Hid ((enterS x.2 (nextS s)).ws.length < f ∧ (enterS x.2 (nextS s)).op = s.op + 1 ∧ (notS E ds f (enterS x.2 (nextS s))).2.op = s.op + 1 ∧ (enterS x.2 (nextS s)).op + (enterS x.2 (nextS s)).ws.length ≤ 20000 ∧ (nextS s).op = s.op) := Lib.hid ⟨by have := HOP.out; omega, by rw [e2, next_op], by rw [e3.2, e2, next_op], by rw [e2, next_op]; have := HOP.out; omega, rfl⟩
    have HOK2 := Lib.hid (HOK.out.suffix (e1.trans (next_ws s)))
    have HP_2 : Hid (PAt w3 g E D (nextS s)) := by have := HP_2; rw [HTK.out] at this; exact this
    rw [HTK.out]
    clear hne0 hl1 e1 e2 e3 e4 h6
    go_wp2_with fail
    refine (pEnter g E D (nextS s) x.2 w3 HP_2.out (by have := HEN.out; have := HOP.out; omega) (by have := HEN.out; have := HOP.out; omega)).mono ?_
    rintro e w4 ⟨rfl, hp, hg⟩
    have HP_3 := Lib.hid (hp)
    have HG_3 := Lib.hid (grownBy_trans HG_2.out hg)
    have HZ_3 := Lib.hid (At.grown' HZ_2.out hg (fun q => by cases q; exact HNE.out rfl))
    clear hp hg
    go_wp2_with fail
    refine (HIH.out (enterS x.2 (nextS s)) _ HP_3.out (below_W HWW.out HG_3.out hH0 HLT.out) HOK2.out HEN.out.1 (by have := HEN.out; have := HOP.out; omega) HEN.out.2.2.2.1).mono ?_
    rintro e w5 ⟨t, rfl, hi, hp, hg⟩
    have HLHT := Lib.hid HP_3.out.lt
    have HMHT := Lib.hid HZ_3.out.lt
    have HQHT := Lib.hid hg.size
    have HP_4 := Lib.hid (hp)
    have HG_4 := Lib.hid (grownBy_trans HG_3.out hg)
    have HZ_4 := Lib.hid (At.grown' HZ_3.out hg (fun q => by cases q; exact HNE.out rfl))
    have HT_4 := Lib.hid (hi)
    clear hp hg hi
    have HNHBt : Hid (w5.heap.size ≠ g) := Lib.hid (by have := HP_4.out.lt; omega)
    have hb := boxW_next w5 t
    have HP_5 := Lib.hid (HP_4.out.next hb)
    have HG_5 := Lib.hid (grownBy_below HG_4.out hb)
    have HZ_5 := Lib.hid (At.below HZ_4.out hb HZ_4.out.lt)
    have HT_5 := Lib.hid (HT_4.out.next hb)
    have HBt_5 := Lib.hid (boxW_at w5 t)
    have honeHBt := Tr.one t
    clear hb
    have HQ2 : Hid (w4.heap.size ≤ (boxW w5 t).heap.size) := Lib.hid (by rw [boxW_size]; exact Nat.le_succ_of_le HQHT.out)
    go_wp2_with (first
      | (with_reducible show wpList _ _ _ ({ dst := none, op := .store _ _ _, type := _, pos := _, after := _, guard := _ } :: _) _ _
         refine wpList_store_row rfl 34 _ _ rfl w5.heap.size t.cs.toArray rfl rfl 34 Tr.blank.cs.toArray (At.new _ _ _) (by kernel_rfl) rfl honeHBt ?_
         change Exit.then _ _ _ _ (boxW w5 t))
      | fail)
    refine (pLeave g E D _ _ HP_5.out (by have := HEN.out; have := HOP.out; omega) (by have := HEN.out; have := HOP.out; omega)).mono ?_
    rintro e w7 ⟨rfl, hp, hg⟩
    have HP_6 := Lib.hid (hp)
    have HG_6 := Lib.hid (grownBy_trans HG_5.out hg)
    have HZ_6 := Lib.hid (At.grown' HZ_5.out hg (fun q => by cases q; exact HNE.out rfl))
    have HBt_6 := Lib.hid (At.grown' HBt_5.out hg (fun q => by cases q; exact HNHBt.out rfl))
    have HT_6 := Lib.hid (HT_5.out.grown hg hH0 HLHT.out)
    clear hp hg
    have HS7 : Hid (w4.heap.size ≤ w7.heap.size) := Lib.hid (by have := HBt_6.out.lt; have := HQHT.out; omega)
    have HNO := Lib.hid (one_node (kd := 6) (lo := 0) (hi' := 0) (neg := false) HT_6.out HS7.out (by unfold I64; omega) I64_zero I64_zero)
    obtain ⟨w8, hw⟩ : ∃ w9, w9 = w7.alloc (.cells t.cs.toArray 34) := ⟨_, rfl⟩
    have hb : Below w7.heap.size w7 w8 := by rw [hw]; exact (Below.refl _ _).alloc (Nat.le_refl _) _
    have HWS := Lib.hid hw
    have HP_7 := Lib.hid (HP_6.out.next hb)
    have HG_7 := Lib.hid (grownBy_below HG_6.out hb)
    have HZ_7 := Lib.hid (At.below HZ_6.out hb HZ_6.out.lt)
    have HBt_7 := Lib.hid (At.below HBt_6.out hb HBt_6.out.lt)
    have HT_7 := Lib.hid (HT_6.out.next hb)
    clear hb hw
    rw [← HWS.out] at HNO
    have hone := Tr.one (Tr.node 6 ⟨0, 0, 0, 0⟩ (some ⟨w7.heap.size, 0, none⟩) 1 1 [t] 0 0 false)
    go_wp2_with (first
      | (refine wpList_load_row rfl 34 _ rfl w5.heap.size rfl 34 t.cs.toArray (0, 0) _ HBt_6.out Try.underlying34 rfl (by kernel_rfl) ?_)
      | (with_reducible show wpList _ _ _ ({ dst := _, op := .buildSlice _ _ _, type := _, pos := _, after := _, guard := _ } :: _) _ _
         refine wpList_slice_tr rfl _ t rfl rfl ?_
         rw [← HWS.out])
      | (with_reducible show wpList _ _ _ ({ dst := none, op := .store _ _ _, type := _, pos := _, after := _, guard := _ } :: _) _ _
         refine wpList_store_row rfl 34 _ _ rfl w.heap.size (Tr.node 6 ⟨0, 0, 0, 0⟩ (some ⟨w7.heap.size, 0, none⟩) 1 1 [t] 0 0 false).cs.toArray rfl rfl 34 Tr.blank.cs.toArray HZ_7.out (by kernel_rfl) rfl hone ?_)
      | fail)
    have ho : Only w.heap.size w8 (w8.setRow w.heap.size (Tr.node 6 ⟨0, 0, 0, 0⟩ (some ⟨w7.heap.size, 0, none⟩) 1 1 [t] 0 0 false).cs.toArray) := Only.row _ _ _
    exact bodyPost_ret (results_cell_row Try.results75 _ _ w.heap.size 34 (Tr.node 6 ⟨0, 0, 0, 0⟩ (some ⟨w7.heap.size, 0, none⟩) 1 1 [t] 0 0 false).cs.toArray (0, 0) _ rfl (HZ_7.out.row _) Try.underlying34 rfl (by kernel_rfl)) rfl ⟨(Tr.node 6 ⟨0, 0, 0, 0⟩ (some ⟨w7.heap.size, 0, none⟩) 1 1 [t] 0 0 false), rfl, by rw [HRR.out]; exact (HNO.out.grown ho.grownBy (Nat.le_trans hH0 (Nat.le_of_lt HLT.out)) HMHT.out).lower (Nat.le_of_lt HMHT.out), (by rw [HRR.out]; exact HP_7.out.keep (ho.below (Nat.le_refl _)) HLT.out), grownBy_from HG_7.out (ho.below (Nat.le_refl _)) (Nat.le_refl _)⟩
  · have HTK : Hid (takeS E 6 s = (false, s)) := Lib.hid (by unfold takeS; rw [HX.out, if_neg h6])
    have HRR : Hid (R = postS E ds (notS E ds f) (f + 1) s) := Lib.hid (by rw [HR.out, if_neg h6])
    have HP_2 : Hid (PAt w3 g E D s) := by have := HP_2; rw [HTK.out] at this; exact this
    rw [HTK.out]
    clear h6
    go_wp2_with fail
    refine (HPO.out s _ HP_2.out (below_W HWW.out HG_2.out hH0 HLT.out) HOK.out HOP.out.2.2 HOP.out.1 HOP.out.2.1).mono ?_
    rintro e w4 ⟨t, rfl, hi, hp, hg⟩
    have HLHT := Lib.hid HP_2.out.lt
    have HMHT := Lib.hid HZ_2.out.lt
    have HQHT := Lib.hid hg.size
    have HP_3 := Lib.hid (hp)
    have HG_3 := Lib.hid (grownBy_trans HG_2.out hg)
    have HZ_3 := Lib.hid (At.grown' HZ_2.out hg (fun q => by cases q; exact HNE.out rfl))
    have HT_3 := Lib.hid (hi)
    clear hp hg hi
    have HP_3 : Hid (PAt w4 g E D R.2) := by rw [HRR.out]; exact HP_3
    have HT_3 : Hid (Tr.Is w4 W0.heap.size w3.heap.size t R.1) := by rw [HRR.out]; exact HT_3
    have hone := Tr.one t
    go_wp2_with (first
      | (with_reducible show wpList _ _ _ ({ dst := none, op := .store _ _ _, type := _, pos := _, after := _, guard := _ } :: _) _ _
         refine wpList_store_row rfl 34 _ _ rfl w.heap.size t.cs.toArray rfl rfl 34 Tr.blank.cs.toArray HZ_3.out (by kernel_rfl) rfl hone ?_)
      | fail)
    have ho : Only w.heap.size w4 (w4.setRow w.heap.size t.cs.toArray) := Only.row _ _ _
    exact bodyPost_ret (results_cell_row Try.results75 _ _ w.heap.size 34 t.cs.toArray (0, 0) _ rfl (HZ_3.out.row _) Try.underlying34 rfl (by kernel_rfl)) rfl ⟨t, rfl, (HT_3.out.grown ho.grownBy (Nat.le_trans hH0 (Nat.le_of_lt HLT.out)) HMHT.out).lower (Nat.le_of_lt HMHT.out), HP_3.out.keep (ho.below (Nat.le_refl _)) HLT.out, grownBy_from HG_3.out (ho.below (Nat.le_refl _)) (Nat.le_refl _)⟩


end Go.Proofs.Ytkbfoelffeocmaa
