/- tree.Plain of a formed pattern, and print.Print of whatever pattern. -/
import Derived.Test.YtibmcdgnponpmaaDoorPrintG
import Derived.Test.YtibmcdgnponpmaaDoorPrintMath
import Derived.Test.YtibmcdgnponpmaaDoorTreePlain
import Derived.Test.YtibmcdgnponpmaaDoorTreeSize
import Derived.Test.YtibmcdgnponpmaaDoorLv
namespace Go.Proofs.YtibmcdgnponpmaaDoor
open Go.RowKit
set_option linter.unusedSimpArgs false
set_option linter.unusedVariables false

theorem textP_strip : ∀ (k : Nat) (t : Tr), textS k (t.strip k) = textS k t
  | 0, _ => rfl
  | k + 1, t => by
    have e : (t.parts.map (Tr.strip k)).map (textS k) = t.parts.map (textS k) := by
      rw [List.map_map]; exact List.map_congr_left fun p _ => textP_strip k p
    show (if t.kind = 1 then _ else if t.kind = 2 then _ else if t.kind = 10 then _ else if t.kind = 11 then _ else if t.kind = 8 ∨ t.kind = 9 then lookT t.kind t.neg ++ ((t.parts.map (Tr.strip k)).map (textS k)).headD noT ++ _ else preT t.kind ++ rowT (sepT t.kind) ((t.parts.map (Tr.strip k)).map (textS k)) ++ _) = _
    rw [e]; rfl
theorem wrtP_strip : ∀ (k : Nat) (t : Tr), wrtS k (t.strip k) → wrtS k t
  | 0, _, _ => trivial
  | k + 1, t, h => by
    obtain ⟨h1, h2, h3, h4⟩ := h
    have hl : (t.strip (k + 1)).parts.length = t.parts.length := by show (t.parts.map (Tr.strip k)).length = _; rw [List.length_map]
    refine ⟨h1, fun q => ?_, h3, fun p hp => wrtP_strip k p (h4 _ (List.mem_map.2 ⟨p, hp, rfl⟩))⟩
    have := h2 q
    rwa [hl] at this

set_option maxRecDepth 100000 in
set_option maxHeartbeats 4000000 in
theorem treePlain (k : Nat) (t : Tr) (w : World) (h : Tr.In w k t) (hf : isFormed k t = true) (hs : slimS k t) :
    Calls Tryd.prog 13 #[.agg t.cs.toArray] w (MadePlain k t w) := by
  have HI := Lib.hid h
  have HF := Lib.hid hf
  have HSl := Lib.hid hs
  have HA : Hid (At ((w.alloc (.cells t.cs.toArray 27)).alloc (.cells #[.int .i64 0, .int .u64 0, .int .u64 0, .int .u64 0, .int .u64 0, .slice none 0 0, .int .i64 0, .int .i64 0, .bool false] 27)) w.heap.size 27 t.cs.toArray) := Lib.hid ((At.new _ _ _).alloc _)
  have HZ : Hid (At ((w.alloc (.cells t.cs.toArray 27)).alloc (.cells #[.int .i64 0, .int .u64 0, .int .u64 0, .int .u64 0, .int .u64 0, .slice none 0 0, .int .i64 0, .int .i64 0, .bool false] 27)) (w.heap.size + 1) 27 Tr.blank.cs.toArray) := Lib.hid (at_new' (w.alloc (.cells t.cs.toArray 27)) (w.heap.size + 1) 27 (cs := Tr.blank.cs.toArray) (by simp))
  have HB : Hid (Below w.heap.size w ((w.alloc (.cells t.cs.toArray 27)).alloc (.cells #[.int .i64 0, .int .u64 0, .int .u64 0, .int .u64 0, .int .u64 0, .slice none 0 0, .int .i64 0, .int .i64 0, .bool false] 27))) := Lib.hid (below_two _ _)
  clear h hf hs
  go_enter Tryd.func13, Tryd.ntmps13
  go_wp2_with (first
  | (with_reducible show wpList _ _ _ ({ dst := _, op := .load 27 _, type := _, pos := _, after := _, guard := _ } :: _) _ _
     refine wpList_load_row rfl 27 _ rfl w.heap.size rfl 27 t.cs.toArray (0, 0) _ HA.out Tryd.underlying27 rfl (by kernel_rfl) ?_)
  | fail)
  refine (treeFormed k t _ (HI.out.next HB.out)).mono ?_
  rintro e w3 ⟨rfl, hb3⟩
  rw [HF.out]
  have HA3 := Lib.hid (HA.out.below hb3 HA.out.lt)
  have HZ3 := Lib.hid (HZ.out.below hb3 HZ.out.lt)
  have HB3 := Lib.hid (HB.out.trans (hb3.mono HB.out.size))
  clear hb3 HA HZ
  go_wp2_with (first
  | (with_reducible show wpList _ _ _ ({ dst := _, op := .load 27 _, type := _, pos := _, after := _, guard := _ } :: _) _ _
     refine wpList_load_row rfl 27 _ rfl w.heap.size rfl 27 t.cs.toArray (0, 0) _ HA3.out Tryd.underlying27 rfl (by kernel_rfl) ?_)
  | fail)
  refine (treePlainAt k t w3 (HI.out.next HB3.out) HSl.out).mono ?_
  rintro e w4 ⟨t2, rfl, hi2, hf2, hs2, hb4⟩
  have HZ4 := Lib.hid (HZ3.out.below hb4 HZ3.out.lt)
  have HB4 := Lib.hid (HB3.out.trans (hb4.mono HB3.out.size))
  have HI2 := Lib.hid hi2
  have hsz : w.heap.size + 2 ≤ w3.heap.size := by have := HZ3.out.lt; omega
  have HF2 := Lib.hid (hf2.lower hsz)
  have HS2 := Lib.hid hs2
  have hone := Tr.one t2
  clear hb4 hi2 hf2 hs2 hsz HA3
  go_wp2_with (first
  | (with_reducible show wpList _ _ _ ({ dst := none, op := .store 27 _ _, type := _, pos := _, after := _, guard := _ } :: _) _ _
     refine wpList_store_row rfl 27 _ _ rfl (w.heap.size + 1) t2.cs.toArray rfl rfl 27 Tr.blank.cs.toArray HZ4.out (by kernel_rfl) rfl hone ?_)
  | fail)
  have hO : Only (w.heap.size + 1) w4 (w4.setRow (w.heap.size + 1) t2.cs.toArray) := Only.row _ _ _
  have hp : MadePlain k t w (.returned (.agg t2.cs.toArray)) (w4.setRow (w.heap.size + 1) t2.cs.toArray) := ⟨_, rfl, HI2.out.only HF2.out hO (by omega), HF2.out.lower (by omega), HS2.out, HB4.out.trans (hO.below (by omega))⟩
  exact bodyPost_ret (results_cell_row Tryd.results13 _ _ (w.heap.size + 1) 27 t2.cs.toArray (0, 0) _ rfl (HZ4.out.row _) Tryd.underlying27 rfl (by kernel_rfl)) rfl hp

set_option maxRecDepth 100000 in
set_option maxHeartbeats 4000000 in
theorem pPrint_no (k : Nat) (t : Tr) (w : World) (h : Tr.In w k t) (hf : isFormed k t = false) :
    Calls Tryd.prog 6 #[.agg t.cs.toArray] w fun e w' => e = .returned (.tuple #[.string noT, .int .i64 1]) ∧ Below w.heap.size w w' := by
  have HI := Lib.hid h
  have HF := Lib.hid hf
  have HA : Hid (At (w.alloc (.cells t.cs.toArray 27)) w.heap.size 27 t.cs.toArray) := Lib.hid (At.new _ _ _)
  have HB : Hid (Below w.heap.size w (w.alloc (.cells t.cs.toArray 27))) := Lib.hid ((Below.refl _ _).alloc (Nat.le_refl _) _)
  clear h hf
  go_enter Tryd.func6, Tryd.ntmps6
  go_wp2_with (first
  | (with_reducible show wpList _ _ _ ({ dst := _, op := .load 27 _, type := _, pos := _, after := _, guard := _ } :: _) _ _
     refine wpList_load_row rfl 27 _ rfl w.heap.size rfl 27 t.cs.toArray (0, 0) _ HA.out Tryd.underlying27 rfl (by kernel_rfl) ?_)
  | fail)
  refine (treeFormed k t _ (HI.out.next HB.out)).mono ?_
  rintro e w3 ⟨rfl, hb3⟩
  rw [HF.out]
  have HB3 := Lib.hid (HB.out.trans (hb3.mono HB.out.size))
  clear hb3
  go_wp2_with fail
  go_ret2
  exact ⟨rfl, HB3.out⟩

/-- What Print answers, if the text is x. -/
def shown (x : ByteArray) : Value := if 10000 < x.size then .tuple #[.string noT, .int .i64 3] else .tuple #[.string x, .int .i64 0]

set_option maxRecDepth 100000 in
set_option maxHeartbeats 4000000 in
theorem pPrint (k : Nat) (t : Tr) (w : World) (h : Tr.In w k t) (hf : isFormed k t = true) (hk : k ≤ 1000) (hm : massS k t ≤ 2000) (hT : Tab w) :
    Calls Tryd.prog 6 #[.agg t.cs.toArray] w fun e w' => e = .returned (shown (textS (k + 1) (plainS k t))) ∧ Below w.heap.size w w' := by
  have hg : 0 < w.heap.size := block_lt_of_cell (a := ⟨0, 0, none⟩) (hT 0 (by omega))
  have hfs : formedS k t = true := by
    have := hf
    unfold isFormed at this
    rw [Bool.and_eq_true, Bool.and_eq_true] at this
    exact this.2.1
  have HSl := Lib.hid (isFormed_slim h.lv hf)
  have HWr := Lib.hid (wrt_plain k t hfs (k + 1))
  obtain ⟨X, hX⟩ : ∃ X, textS (k + 1) (plainS k t) = X := ⟨_, rfl⟩
  have HSz : Hid (X.size ≤ 12100000) := Lib.hid (by rw [← hX]; exact plain_text hm _)
  have HX := Lib.hid hX
  rw [hX]
  have HI := Lib.hid h
  have HF := Lib.hid hf
  have HT := Lib.hid hT
  have HG := Lib.hid hg
  have HA : Hid (At (w.alloc (.cells t.cs.toArray 27)) w.heap.size 27 t.cs.toArray) := Lib.hid (At.new _ _ _)
  have HB : Hid (Below w.heap.size w (w.alloc (.cells t.cs.toArray 27))) := Lib.hid ((Below.refl _ _).alloc (Nat.le_refl _) _)
  clear h hf hfs hX hT hg hm
  go_enter Tryd.func6, Tryd.ntmps6
  go_wp2_with (first
  | (with_reducible show wpList _ _ _ ({ dst := _, op := .load 27 _, type := _, pos := _, after := _, guard := _ } :: _) _ _
     refine wpList_load_row rfl 27 _ rfl w.heap.size rfl 27 t.cs.toArray (0, 0) _ HA.out Tryd.underlying27 rfl (by kernel_rfl) ?_)
  | fail)
  refine (treeFormed k t _ (HI.out.next HB.out)).mono ?_
  rintro e w1 ⟨rfl, hb1⟩
  rw [HF.out]
  obtain ⟨b, hb⟩ : ∃ b, b = w1.heap.size := ⟨_, rfl⟩
  obtain ⟨w2, hw2⟩ : ∃ w2, w2 = w1.alloc (.cells #[.pointer none, .slice none 0 0] 40) := ⟨_, rfl⟩
  have ha1 := HA.out.below hb1 HA.out.lt
  have hB1 := HB.out.trans (hb1.mono HB.out.size)
  have h12 : Below w1.heap.size w1 w2 := by rw [hw2]; exact (Below.refl _ _).alloc (Nat.le_refl _) _
  have HA2 : Hid (At (w1.alloc (.cells #[.pointer none, .slice none 0 0] 40)) w.heap.size 27 t.cs.toArray) := Lib.hid (ha1.alloc _)
  have hB2 := hB1.trans (h12.mono hB1.size)
  have hbw2 : w2.heap.size = b + 1 := by rw [hw2, hb]; simp
  have hbd2 : Bd w2 b noT := by
    rw [hw2, hb]; exact Lib.fresh_isBuilder _ _ w1
  have hbuf2 : bufOf w2 b = none := by
    rw [hw2, hb]; rw [bufOf_at (heap_alloc_new w1 _)]; rfl
  have HB2 := Lib.hid hB2
  have HBd2 := Lib.hid hbd2
  have HBuf2 := Lib.hid hbuf2
  have HW2 := Lib.hid hw2
  have HBw := Lib.hid hbw2
  have HBe := Lib.hid hb
  have HLe : Hid (w.heap.size ≤ b) := Lib.hid (by rw [hb]; exact hB1.size)
  clear hb1 hb hw2 ha1 hB1 h12 hB2 hbw2 hbd2 hbuf2 HA HB
  go_wp2_with (first
  | (with_reducible show wpList _ _ _ ({ dst := _, op := .load 27 _, type := _, pos := _, after := _, guard := _ } :: _) _ _
     refine wpList_load_row rfl 27 _ rfl w.heap.size rfl 27 t.cs.toArray (0, 0) _ HA2.out Tryd.underlying27 rfl (by kernel_rfl) ?_)
  | fail)
  rw [← HW2.out, ← HBe.out]
  refine (treePlain k t w2 (HI.out.next HB2.out) HF.out HSl.out).mono ?_
  rintro e w3 ⟨t2, rfl, hi2, hf2, hs2, hb3⟩
  have hB3 := HB2.out.trans (hb3.mono HB2.out.size)
  have hbd3 := HBd2.out.next hb3
  have hbuf3 : bufOf w3 b = none := by
    rw [bufOf_same (hb3.block b (by rw [HBw.out]; omega))]; exact HBuf2.out
  have hTab3 := HT.out.below hB3
  rw [HBw.out] at hf2
  have hgb : 0 < b := Nat.lt_of_lt_of_le HG.out HLe.out
  have hpre : Pre b w3 (k + 1) t2 := ⟨hi2, ⟨Tr.Off.from (Nat.lt_succ_self b) _ _ hf2, fun g q => by rw [hbuf3] at q; cases q⟩, wrtP_strip _ _ (by rw [hs2]; exact HWr.out), hTab3⟩
  have htx : textS (k + 1) t2 = X := by rw [← textP_strip, hs2]; exact HX.out
  have HPre := Lib.hid hpre
  have HTx := Lib.hid htx
  have HGb := Lib.hid hgb
  have HBd3 := Lib.hid hbd3
  have HBuf3 := Lib.hid hbuf3
  have HB3 := Lib.hid hB3
  clear hi2 hf2 hs2 hb3 hbd3 hbuf3 hTab3 hgb hpre htx hB3 HA2
  go_wp2_with fail
  refine (pWrite b HGb.out (k + 1) t2 noT w3 HPre.out HBd3.out (by rw [HTx.out]; have := HSz.out; show 0 + _ + _ ≤ _; omega)).mono ?_
  rintro e w4 ⟨rfl, hbd4, hk4⟩
  rw [HTx.out, no_app] at hbd4
  have HBd4 := Lib.hid hbd4
  have HB4 := Lib.hid (HB3.out.trans (hk4.low HLe.out (HB3.out.size) (fun g q => by rw [HBuf3.out] at q; cases q)))
  clear hbd4 hk4
  go_wp2_with fail
  refine (lib_Builder_Len b b (Lib.strCells X) w4 HBd4.out).mono ?_
  rintro e w5 ⟨rfl, rfl⟩
  rw [Lib.strCells_length]
  by_cases hlong : 10000 < X.size
  · have d1 : decide ((10000 : Int) < (X.size : Int)) = true := decide_eq_true (by omega)
    have HS : Hid (shown X = .tuple #[.string noT, .int .i64 3]) := Lib.hid (by unfold shown; rw [if_pos hlong])
    clear hlong
    go_wp2_with fail
    go_ret2
    exact ⟨by rw [HS.out]; rfl, HB4.out⟩
  · have d1 : decide ((10000 : Int) < (X.size : Int)) = false := decide_eq_false (by omega)
    have HS : Hid (shown X = .tuple #[.string X, .int .i64 0]) := Lib.hid (by unfold shown; rw [if_neg hlong])
    clear hlong
    go_wp2_with fail
    refine (lib_Builder_String_any b b X.data.toList w5 HBd4.out (Nat.le_of_lt HBd4.out.lt)).mono ?_
    rintro e w6 ⟨rfl, hb6⟩
    have HB6 := Lib.hid (HB4.out.trans (hb6.mono HLe.out))
    clear hb6
    go_wp2_with fail
    go_ret2
    exact ⟨by rw [HS.out]; rfl, HB6.out⟩

end Go.Proofs.YtibmcdgnponpmaaDoor
