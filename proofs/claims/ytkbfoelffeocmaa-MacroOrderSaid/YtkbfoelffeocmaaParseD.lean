/- The parser: what a Name stands for. -/
import Derived.Test.YtkbfoelffeocmaaParseC
namespace Go.Proofs.Ytkbfoelffeocmaa
open Go.RowKit
set_option linter.unusedSimpArgs false
set_option linter.unusedVariables false

theorem Tr.In.out {w : World} (hi : Nat) : ∀ (k : Nat) (t : Tr), Tr.In w k t → Tr.Out w.heap.size hi k t
  | 0, _, _ => trivial
  | k + 1, t, h => ⟨fun h0 b off e => by
      obtain ⟨b', off', e', hlt, _⟩ := h.2.2.1 h0
      rw [e] at e'
      injection e' with e'
      injection e' with e1
      omega, fun p hp => by
      obtain ⟨j, hj, rfl⟩ := List.getElem_of_mem hp
      exact Tr.In.out hi k _ (h.2.2.2 j hj)⟩
/-- The defs, as they lie in the memory that was there ahead. -/
def DefsIn (W0 : World) (D : Value) (ds : List (ByteArray × Tr)) : Prop :=
  ∃ (A : Option Addr) (cap : Nat) (ts : List Tr), D = .slice A ds.length cap ∧ ds.length ≤ 100000 ∧ ts.length = ds.length ∧
    (0 < ds.length → ∃ b off, A = some ⟨b, off, none⟩ ∧ b < W0.heap.size ∧ ∀ (j : Nat) (h : j < ds.length) (h' : j < ts.length), W0.rangeAt b (off + j * 10) (.string ds[j].1 :: ts[j].cs)) ∧
    ∀ (j : Nat) (h : j < ds.length) (h' : j < ts.length), ∃ k, Tr.Ins W0 k ts[j] ∧ ∀ k', k ≤ k' → ts[j].strip k' = ds[j].2
def defCs (n : ByteArray) (t : Tr) : List Value := .string n :: t.cs
theorem defCs_length (n : ByteArray) (t : Tr) : (defCs n t).length = 10 := rfl
theorem defCs_one (n : ByteArray) (t : Tr) : (defCs n t).toArray.all (·.oneCell') = true := by
  have := Tr.one t
  unfold defCs
  simp only [List.all_toArray, List.all_cons, Bool.and_eq_true] at this ⊢
  exact ⟨rfl, this⟩
def boxD (w : World) (n : ByteArray) (t : Tr) : World := (w.alloc (.cells #[.string { data := #[] }, .int .i64 0, .int .u64 0, .int .u64 0, .int .u64 0, .int .u64 0, .slice none 0 0, .int .i64 0, .int .i64 0, .bool false] 36)).setRow w.heap.size (defCs n t).toArray
theorem boxD_at (w : World) (n : ByteArray) (t : Tr) : At (boxD w n t) w.heap.size 36 (defCs n t).toArray := At.row (At.new w 36 _) _
theorem boxD_next (w : World) (n : ByteArray) (t : Tr) : Below w.heap.size w (boxD w n t) := ((Below.refl _ _).alloc (Nat.le_refl _) _).trans ((Only.row _ _ _).below (Nat.le_refl _))
theorem boxD_range (w : World) (n : ByteArray) (t : Tr) : (boxD w n t).rangeAt w.heap.size 1 t.cs := fun i u hu => by
  rw [(boxD_at w n t).cell (1 + i), List.getElem?_toArray, show (defCs n t)[1 + i]? = t.cs[i]? from by unfold defCs; rw [Nat.add_comm, List.getElem?_cons_succ]]
  exact hu
theorem toList_inj {a b : ByteArray} (h : a.toList = b.toList) : a = b := by
  rw [ByteArray.toList_eq, ByteArray.toList_eq] at h
  cases a; cases b; congr 1; exact Array.toList_inj.1 h
theorem drop_cons {α : Type} (l : List α) (j : Nat) (h : j < l.length) : l.drop j = l[j] :: l.drop (j + 1) := by simp

set_option maxRecDepth 100000 in
set_option maxHeartbeats 4000000 in
theorem pNamed (W0 : World) (g E : Nat) (D : Value) (ds : List (ByteArray × Tr)) (hD : DefsIn W0 D ds) (hH0 : W0.heap.size ≤ g) (x : Wd × Nat) (s : PSt) (w : World) (h : PAt w g E D s) (hW : Below W0.heap.size W0 w) :
    Calls Try.prog 88 #[.pointer (some ⟨g, 0, none⟩), .agg (wdCells x.1 x.2)] w (PRes W0 g E D w (lookS ds x s)) := by
  obtain ⟨A, cap, ts, rfl, hl, hts, hrow, htr⟩ := hD
  have HWW := Lib.hid hW
  have HTR := Lib.hid htr
  have HROW := Lib.hid hrow
  have HTS := Lib.hid hts
  have HL := Lib.hid hl
  obtain ⟨R, hR⟩ : ∃ R, lookS ds x s = R := ⟨_, rfl⟩
  have HR := Lib.hid hR
  clear hW htr hrow hts
  rw [hR]
  clear hR
  obtain ⟨w1, hw1⟩ : ∃ w1, w1 = (w.alloc (.cells (wdCells x.1 x.2) 57)).alloc (.cells #[.int .i64 0, .int .u64 0, .int .u64 0, .int .u64 0, .int .u64 0, .slice none 0 0, .int .i64 0, .int .i64 0, .bool false] 34) := ⟨_, rfl⟩
  have hb1 : Below w.heap.size w w1 := by rw [hw1]; exact below_two _ _
  have ha1 : At w1 w.heap.size 57 (wdCells x.1 x.2) := by rw [hw1]; exact (At.new _ _ _).alloc _
  have hz1 : At w1 (w.heap.size + 1) 34 Tr.blank.cs.toArray := by rw [hw1]; exact at_new' (w.alloc (.cells (wdCells x.1 x.2) 57)) (w.heap.size + 1) 34 (cs := Tr.blank.cs.toArray) (by simp)
  have hsz1 : w1.heap.size = w.heap.size + 2 := by rw [hw1]; simp
  have HLT := Lib.hid h.lt
  have HNE : Hid (w.heap.size + 1 ≠ g) := Lib.hid (by have := HLT.out; omega)
  have HNA : Hid (w.heap.size ≠ g) := Lib.hid (by have := HLT.out; omega)
  have HSZ := Lib.hid hsz1
  have HP_0 := Lib.hid (h.next hb1)
  have HZ_0 := Lib.hid hz1
  have HA_0 := Lib.hid ha1
  have HG_0 := Lib.hid (grownBy_below (grownBy_refl w (some g)) hb1)
  have HW1 := Lib.hid hw1
  clear hb1 hz1 ha1 h hsz1
  clear hw1
  obtain ⟨v, hwv, hA3, c0, c1, c2, c3, c4, c5, hf⟩ := HP_0.out.c0
  have c2' := c2
  rw [HW1.out] at c2'
  clear c0 c1 c2 c3 c4 c5 hf hwv hA3 v
  go_enter Try.func88, Try.ntmps88
  go_wp2_with fail
  rw [← HW1.out]
  clear c2'
  go_loopw [12] (fun i wr => ∃ (j : Nat), j ≤ ds.length ∧ i = .int .i64 j ∧ Hid (lookS (ds.drop j) x s = R) ∧ Hid (PAt wr g E (.slice A ds.length cap) s) ∧ Hid (At wr w.heap.size 57 (wdCells x.1 x.2)) ∧ Hid (At wr (w.heap.size + 1) 34 Tr.blank.cs.toArray) ∧ Hid (Below w1.heap.size w1 wr)) (fun i _ => ds.length - (intOf i).toNat)
  case atStart => exact ⟨0, Nat.zero_le _, rfl, HR, HP_0, HA_0, HZ_0, Lib.hid (Below.refl _ _)⟩
  case round =>
    obtain ⟨j, hj, rfl, HJ, HP, HA, HZ, HB⟩ := hrel
    have cx := HA.out.cell 6
    rw [show (wdCells x.1 x.2)[6]? = some (.string x.1.name) from rfl] at cx
    by_cases hlt : j < ds.length
    · have hjz : (0 : Int) ≤ (j : Int) := by omega
      have hjn : (j : Int) < (ds.length : Int) := by omega
      have hlt' : j < ts.length := by rw [HTS.out]; exact hlt
      obtain ⟨b, off, rfl, hb, hr⟩ := HROW.out (by omega)
      have hbw : b < w1.heap.size := Nat.lt_of_lt_of_le hb (Nat.le_trans HWW.out.size (by have := HSZ.out; omega))
      have hW1 : Below W0.heap.size W0 w1 := below_W HWW.out HG_0.out hH0 HLT.out
      have hWr : Below W0.heap.size W0 wr := hW1.trans (HB.out.mono hW1.size)
      have HRj := Lib.hid (range_below (hr j hlt hlt') hb (Nat.le_refl _) hWr)
      obtain ⟨kt, hin, hst⟩ := HTR.out j hlt hlt'
      have HT : Hid (Tr.Is wr W0.heap.size (wr.heap.size + 5) ts[j] ds[j].2) := Lib.hid ⟨kt, hin.below (Nat.le_refl _) hWr, Tr.In.out _ _ _ hin.1, hst⟩
      rw [drop_cons ds j hlt] at HJ
      generalize ds[j] = d at HRj HT HJ
      generalize ts[j] = t at HRj HT
      have hone := Tr.one t
      have honed := defCs_one d.1 t
      have HBx := Lib.hid (boxD_at wr d.1 t)
      have HRx := Lib.hid (boxD_range wr d.1 t)
      have hbx := boxD_next wr d.1 t
      have HPx := Lib.hid (HP.out.next hbx)
      have HAx := Lib.hid (At.below HA.out hbx HA.out.lt)
      have HZx := Lib.hid (At.below HZ.out hbx HZ.out.lt)
      have HTx := Lib.hid (HT.out.next hbx)
      have HBBx := Lib.hid (HB.out.trans (hbx.mono HB.out.size))
      have HGx : Hid (w.grownBy (boxD wr d.1 t) (some g)) := Lib.hid (grownBy_below HG_0.out HBBx.out)
      have cd := HBx.out.cell 0
      rw [show (defCs d.1 t).toArray[0]? = some (.string d.1) from rfl] at cd
      have cn := HAx.out.cell 6
      rw [show (wdCells x.1 x.2)[6]? = some (.string x.1.name) from rfl] at cn
      clear hr hb hbw hW1 hWr hin hst hbx cx
      by_cases hnm : d.1 = x.1.name
      · have HRR : Hid (R = (d.2, s)) := Lib.hid (by rw [← HJ.out]; show (if d.1 = x.1.name then _ else _) = _; rw [if_pos hnm])
        have hnb : (d.1.toList == x.1.name.toList) = true := by rw [hnm]; simp
        clear hnm
        go_wp2_with (first
          | (refine wpList_load_mid rfl 36 _ rfl b (off + j * 10) rfl (defCs d.1 t) _ HRj.out Try.underlying36 rfl (by rw [defCs_length]; kernel_rfl) ?_)
          | (with_reducible show wpList _ _ _ ({ dst := none, op := .store _ _ _, type := _, pos := _, after := _, guard := _ } :: _) _ _
             refine wpList_store_row rfl 36 _ _ rfl wr.heap.size (defCs d.1 t).toArray rfl rfl 36 #[.string { data := #[] }, .int .i64 0, .int .u64 0, .int .u64 0, .int .u64 0, .int .u64 0, .slice none 0 0, .int .i64 0, .int .i64 0, .bool false] (At.new _ _ _) (by kernel_rfl) rfl honed ?_
             change Exit.then _ _ _ _ (boxD wr d.1 t))
          | (refine wpList_load_mid rfl 34 _ rfl wr.heap.size 1 rfl t.cs _ HRx.out Try.underlying34 rfl (by rw [Tr.cs_length]; kernel_rfl) ?_)
          | (with_reducible show wpList _ _ _ ({ dst := none, op := .store _ _ _, type := _, pos := _, after := _, guard := _ } :: _) _ _
             refine wpList_store_row rfl 34 _ _ rfl (w.heap.size + 1) t.cs.toArray rfl rfl 34 Tr.blank.cs.toArray HZx.out (by kernel_rfl) rfl hone ?_)
          | fail)
        have ho : Only (w.heap.size + 1) (boxD wr d.1 t) ((boxD wr d.1 t).setRow (w.heap.size + 1) t.cs.toArray) := Only.row _ _ _
        have hzl := HZ.out.lt
        exact bodyPost_ret (results_cell_row Try.results88 _ _ (w.heap.size + 1) 34 t.cs.toArray (0, 0) _ rfl (HZx.out.row _) Try.underlying34 rfl (by kernel_rfl)) rfl ⟨t, rfl, by rw [HRR.out]; exact (HTx.out.grown ho.grownBy (by have := HLT.out; omega) (by omega)).lower (by omega), by rw [HRR.out]; exact HPx.out.keep (ho.below (Nat.le_succ _)) HLT.out, grownBy_from HGx.out (ho.below (Nat.le_succ _)) (Nat.le_refl _)⟩
      · have HJ2 : Hid (lookS (ds.drop (j + 1)) x s = R) := Lib.hid (by rw [← HJ.out]; show _ = (if d.1 = x.1.name then _ else _); rw [if_neg hnm])
        have hnb : (d.1.toList == x.1.name.toList) = false := by
          rw [beq_eq_false_iff_ne]; exact fun q => hnm (toList_inj q)
        clear hnm
        go_wp2_with (first
          | (refine wpList_load_mid rfl 36 _ rfl b (off + j * 10) rfl (defCs d.1 t) _ HRj.out Try.underlying36 rfl (by rw [defCs_length]; kernel_rfl) ?_)
          | (with_reducible show wpList _ _ _ ({ dst := none, op := .store _ _ _, type := _, pos := _, after := _, guard := _ } :: _) _ _
             refine wpList_store_row rfl 36 _ _ rfl wr.heap.size (defCs d.1 t).toArray rfl rfl 36 #[.string { data := #[] }, .int .i64 0, .int .u64 0, .int .u64 0, .int .u64 0, .int .u64 0, .slice none 0 0, .int .i64 0, .int .i64 0, .bool false] (At.new _ _ _) (by kernel_rfl) rfl honed ?_
             change Exit.then _ _ _ _ (boxD wr d.1 t))
          | fail)
        exact ⟨⟨j + 1, by omega, by go_num, HJ2, HPx, HAx, HZx, HBBx⟩, by simp [intOf]; omega⟩
    · obtain rfl : j = ds.length := by omega
      have HRR : Hid (R = (leafT 0 ⟨0, 0, 0, 0⟩ false, failS x.2 5 s)) := Lib.hid (by rw [← HJ.out, List.drop_length]; rfl)
      have cx1 := HA.out.cell 1
      rw [show (wdCells x.1 x.2)[1]? = some (.int .i64 x.2) from rfl] at cx1
      have HGx : Hid (w.grownBy wr (some g)) := Lib.hid (grownBy_below HG_0.out HB.out)
      go_wp2_with fail
      refine (pFail g E _ s x.2 5 _ HP.out).mono ?_
      rintro e w3 ⟨rfl, hp, hg⟩
      have HP3 := Lib.hid hp
      have HZ3 := Lib.hid (At.grown' HZ.out hg (fun q => by cases q; exact HNE.out rfl))
      have HG3 := Lib.hid (grownBy_trans HGx.out hg)
      have hone := Tr.one (leafT 0 ⟨0, 0, 0, 0⟩ false)
      clear hp hg
      go_wp2_with (first
        | (with_reducible show wpList _ _ _ ({ dst := none, op := .store _ _ _, type := _, pos := _, after := _, guard := _ } :: _) _ _
           refine wpList_store_row rfl 34 _ _ rfl (w.heap.size + 1) (leafT 0 ⟨0, 0, 0, 0⟩ false).cs.toArray rfl rfl 34 Tr.blank.cs.toArray HZ3.out (by kernel_rfl) rfl hone ?_)
        | fail)
      have ho : Only (w.heap.size + 1) w3 (w3.setRow (w.heap.size + 1) (leafT 0 ⟨0, 0, 0, 0⟩ false).cs.toArray) := Only.row _ _ _
      exact bodyPost_ret (results_cell_row Try.results88 _ _ (w.heap.size + 1) 34 (leafT 0 ⟨0, 0, 0, 0⟩ false).cs.toArray (0, 0) _ rfl (HZ3.out.row _) Try.underlying34 rfl (by kernel_rfl)) rfl ⟨leafT 0 ⟨0, 0, 0, 0⟩ false, rfl, by rw [HRR.out]; exact leaf_is _ _ _ _ _ _ zero_ok I64_zero, by rw [HRR.out]; exact HP3.out.keep (ho.below (Nat.le_succ _)) HLT.out, grownBy_from HG3.out (ho.below (Nat.le_succ _)) (Nat.le_refl _)⟩

end Go.Proofs.Ytkbfoelffeocmaa
