/- What the reference's Text answers: a plain pattern's text. -/
import Derived.Test.YtibmcdgnponpmaaDoorProg
import Derived.Test.YtibmcdgnponpmaaDoorTextS
import Derived.Test.YtibmcdgnponpmaaDoorMa
import Derived.Test.YtibmcdgnponpmaaDoorRefSame
namespace Go.Proofs.YtibmcdgnponpmaaDoor
open Go.RowKit
set_option linter.unusedSimpArgs false
set_option linter.unusedVariables false

def TextPost (k : Nat) (t : Tr) (w : World) (e : Ending) (w' : World) : Prop := ∃ x : ByteArray, e = .returned (.string x) ∧ TextR k t x ∧ x.size ≤ 40000 * k ∧ Below w.heap.size w w'
def Texts (k : Nat) : Prop := ∀ (t : Tr) (w : World), Tr.In w k t → wrtS k t → Calls Tryd.prog 8 #[.agg t.cs.toArray] w (TextPost k t w)
theorem noT_size : noT.size = 0 := rfl
theorem digT_len (n : Nat) : (digT n).size ≤ 2 := digT_size

set_option maxRecDepth 100000 in
set_option maxHeartbeats 4000000 in
theorem refText_1 (k : Nat) (hk : k ≤ 1000) (ih : Texts k) (t : Tr) (w : World) (h : Tr.In w (k + 1) t) (hw : wrtS (k + 1) t) (hkd : t.kind = 1) :
    Calls Tryd.prog 8 #[.agg t.cs.toArray] w (TextPost (k + 1) t w) := by
  have HV := Lib.hid (text_1 (k := k) hkd)
  have HA := Lib.hid (At.new w 27 t.cs.toArray)
  have HB : Hid (Below w.heap.size w (w.alloc (.cells t.cs.toArray 27))) := Lib.hid ((Below.refl _ _).alloc (Nat.le_refl _) _)
  have c0 := (At.tr_cell HA.out).1
  rw [hkd] at c0
  clear h hw hkd ih
  go_enter Tryd.func8, Tryd.ntmps8
  go_wp2_with fail
  go_ret
  have hz2 : (⟨#[40, 41]⟩ : ByteArray).size ≤ 2 := by decide
  exact ⟨⟨#[40, 41]⟩, rfl, Or.inl HV.out.symm, by omega, HB.out⟩

set_option maxRecDepth 100000 in
set_option maxHeartbeats 4000000 in
theorem refText_2 (k : Nat) (hk : k ≤ 1000) (ih : Texts k) (t : Tr) (w : World) (h : Tr.In w (k + 1) t) (hw : wrtS (k + 1) t) (hkd : t.kind = 2) :
    Calls Tryd.prog 8 #[.agg t.cs.toArray] w (TextPost (k + 1) t w) := by
  have HV := Lib.hid (text_2 (k := k) hkd)
  have hA := At.new w 27 t.cs.toArray
  have HB : Hid (Below w.heap.size w (w.alloc (.cells t.cs.toArray 27))) := Lib.hid ((Below.refl _ _).alloc (Nat.le_refl _) _)
  have c0 := (At.tr_cell hA).1
  obtain ⟨c1, c2, c3, c4⟩ := At.tr_set hA
  rw [hkd] at c0
  have HS := Lib.hid h.1.1
  clear h hw hkd ih hA
  go_enter Tryd.func8, Tryd.ntmps8
  go_wp2_with fail
  refine (refClassT t.set HS.out _).mono ?_
  rintro e w1 ⟨rfl, hb1⟩
  have HB1 := Lib.hid (HB.out.trans (hb1.mono HB.out.size))
  clear hb1
  go_wp2_with fail
  go_ret
  have hz2 := clsT_size t.set
  exact ⟨clsT t.set, rfl, Or.inl HV.out.symm, by omega, HB1.out⟩

set_option maxRecDepth 100000 in
set_option maxHeartbeats 4000000 in
theorem refText_10 (k : Nat) (hk : k ≤ 1000) (ih : Texts k) (t : Tr) (w : World) (h : Tr.In w (k + 1) t) (hw : wrtS (k + 1) t) (hkd : t.kind = 10) :
    Calls Tryd.prog 8 #[.agg t.cs.toArray] w (TextPost (k + 1) t w) := by
  have HV := Lib.hid (text_10 (k := k) hkd)
  have HA := Lib.hid (At.new w 27 t.cs.toArray)
  have HB : Hid (Below w.heap.size w (w.alloc (.cells t.cs.toArray 27))) := Lib.hid ((Below.refl _ _).alloc (Nat.le_refl _) _)
  have c0 := (At.tr_cell HA.out).1
  rw [hkd] at c0
  clear h hw hkd ih
  go_enter Tryd.func8, Tryd.ntmps8
  go_wp2_with fail
  go_ret
  have hz2 : (⟨#[94]⟩ : ByteArray).size ≤ 2 := by decide
  exact ⟨⟨#[94]⟩, rfl, Or.inl HV.out.symm, by omega, HB.out⟩

set_option maxRecDepth 100000 in
set_option maxHeartbeats 4000000 in
theorem refText_11 (k : Nat) (hk : k ≤ 1000) (ih : Texts k) (t : Tr) (w : World) (h : Tr.In w (k + 1) t) (hw : wrtS (k + 1) t) (hkd : t.kind = 11) :
    Calls Tryd.prog 8 #[.agg t.cs.toArray] w (TextPost (k + 1) t w) := by
  have HV := Lib.hid (text_11 (k := k) hkd)
  have HA := Lib.hid (At.new w 27 t.cs.toArray)
  have HB : Hid (Below w.heap.size w (w.alloc (.cells t.cs.toArray 27))) := Lib.hid ((Below.refl _ _).alloc (Nat.le_refl _) _)
  have c0 := (At.tr_cell HA.out).1
  rw [hkd] at c0
  clear h hw hkd ih
  go_enter Tryd.func8, Tryd.ntmps8
  go_wp2_with fail
  go_ret
  have hz2 : (⟨#[36]⟩ : ByteArray).size ≤ 2 := by decide
  exact ⟨⟨#[36]⟩, rfl, Or.inl HV.out.symm, by omega, HB.out⟩

set_option maxRecDepth 100000 in
set_option maxHeartbeats 4000000 in
theorem refText_8f (k : Nat) (hk : k ≤ 1000) (ih : Texts k) (t : Tr) (w : World) (h : Tr.In w (k + 1) t) (hw : wrtS (k + 1) t) (hkd : t.kind = 8) (hng : t.neg = false) :
    Calls Tryd.prog 8 #[.agg t.cs.toArray] w (TextPost (k + 1) t w) := by
  have hl : t.parts.length = 1 := hw.2.1 (by omega)
  have hl0 : 0 < t.parts.length := by omega
  have HL := Lib.hid hl0
  have hn := h.2.1.1
  have HLk : Hid (lookT t.kind t.neg = ⟨#[40, 63]⟩ ++ ⟨#[61]⟩) := Lib.hid (by rw [hkd, hng]; rfl)
  have HR := Lib.hid (fun y (hy : TextR k (t.parts[0]'hl0) y) => text_look_r (k := k) (by omega) hl0 hy)
  have hA := At.new w 27 t.cs.toArray
  have HB : Hid (Below w.heap.size w (w.alloc (.cells t.cs.toArray 27))) := Lib.hid ((Below.refl _ _).alloc (Nat.le_refl _) _)
  obtain ⟨c0, c5, c6, c7, c8⟩ := At.tr_cell hA
  rw [hkd] at c0
  rw [hng] at c8
  rw [hn, hl] at c5
  obtain ⟨b, off, ha, hb, hr⟩ := h.2.2.1 (by rw [hn]; omega)
  rw [ha] at c5
  have HRg := Lib.hid (range_below (hr 0 hl0) hb (Nat.le_refl _) HB.out)
  have HP := Lib.hid (Tr.In.next (h.2.2.2 0 hl0) HB.out)
  have HW := Lib.hid (hw.2.2.2 _ (List.getElem_mem hl0))
  have HI := Lib.hid ih
  rw [Nat.zero_mul, Nat.add_zero] at HRg
  clear h hw hkd ih hA hr hb ha hn hl c6 c7 hng
  go_enter Tryd.func8, Tryd.ntmps8
  go_wp2_with (first
    | (with_reducible show wpList _ _ _ ({ dst := _, op := .load 27 _, type := _, pos := _, after := _, guard := _ } :: _) _ _
       refine wpList_load_mid rfl 27 _ rfl b off rfl (t.parts[0]'hl0).cs _ HRg.out Tryd.underlying27 rfl (by rw [Tr.cs_length]; kernel_rfl) ?_)
    | fail)
  refine (HI.out (t.parts[0]'hl0) _ HP.out HW.out).mono ?_
  rintro e w1 ⟨y, rfl, hy, hys, hb1⟩
  have HB1 := Lib.hid (HB.out.trans (hb1.mono HB.out.size))
  have HY := Lib.hid (HR.out y hy)
  clear hb1 hy c0 c5 c8
  go_wp2_with fail
  go_ret
  have hz2 : (⟨#[40, 63]⟩ ++ ⟨#[61]⟩ : ByteArray).size ≤ 4 := by decide
  have hz3 : (⟨#[40, 63]⟩ ++ ⟨#[61]⟩ ++ y ++ ⟨#[41]⟩ : ByteArray).size ≤ y.size + 5 := by
    rw [size_app, size_app]
    have : (ByteArray.mk #[41]).size = 1 := rfl
    omega
  exact ⟨⟨#[40, 63]⟩ ++ ⟨#[61]⟩ ++ y ++ ⟨#[41]⟩, rfl, by have := HY.out; rw [HLk.out] at this; exact this, by omega, HB1.out⟩

set_option maxRecDepth 100000 in
set_option maxHeartbeats 4000000 in
theorem refText_8t (k : Nat) (hk : k ≤ 1000) (ih : Texts k) (t : Tr) (w : World) (h : Tr.In w (k + 1) t) (hw : wrtS (k + 1) t) (hkd : t.kind = 8) (hng : t.neg = true) :
    Calls Tryd.prog 8 #[.agg t.cs.toArray] w (TextPost (k + 1) t w) := by
  have hl : t.parts.length = 1 := hw.2.1 (by omega)
  have hl0 : 0 < t.parts.length := by omega
  have HL := Lib.hid hl0
  have hn := h.2.1.1
  have HLk : Hid (lookT t.kind t.neg = ⟨#[40, 63]⟩ ++ ⟨#[33]⟩) := Lib.hid (by rw [hkd, hng]; rfl)
  have HR := Lib.hid (fun y (hy : TextR k (t.parts[0]'hl0) y) => text_look_r (k := k) (by omega) hl0 hy)
  have hA := At.new w 27 t.cs.toArray
  have HB : Hid (Below w.heap.size w (w.alloc (.cells t.cs.toArray 27))) := Lib.hid ((Below.refl _ _).alloc (Nat.le_refl _) _)
  obtain ⟨c0, c5, c6, c7, c8⟩ := At.tr_cell hA
  rw [hkd] at c0
  rw [hng] at c8
  rw [hn, hl] at c5
  obtain ⟨b, off, ha, hb, hr⟩ := h.2.2.1 (by rw [hn]; omega)
  rw [ha] at c5
  have HRg := Lib.hid (range_below (hr 0 hl0) hb (Nat.le_refl _) HB.out)
  have HP := Lib.hid (Tr.In.next (h.2.2.2 0 hl0) HB.out)
  have HW := Lib.hid (hw.2.2.2 _ (List.getElem_mem hl0))
  have HI := Lib.hid ih
  rw [Nat.zero_mul, Nat.add_zero] at HRg
  clear h hw hkd ih hA hr hb ha hn hl c6 c7 hng
  go_enter Tryd.func8, Tryd.ntmps8
  go_wp2_with (first
    | (with_reducible show wpList _ _ _ ({ dst := _, op := .load 27 _, type := _, pos := _, after := _, guard := _ } :: _) _ _
       refine wpList_load_mid rfl 27 _ rfl b off rfl (t.parts[0]'hl0).cs _ HRg.out Tryd.underlying27 rfl (by rw [Tr.cs_length]; kernel_rfl) ?_)
    | fail)
  refine (HI.out (t.parts[0]'hl0) _ HP.out HW.out).mono ?_
  rintro e w1 ⟨y, rfl, hy, hys, hb1⟩
  have HB1 := Lib.hid (HB.out.trans (hb1.mono HB.out.size))
  have HY := Lib.hid (HR.out y hy)
  clear hb1 hy c0 c5 c8
  go_wp2_with fail
  go_ret
  have hz2 : (⟨#[40, 63]⟩ ++ ⟨#[33]⟩ : ByteArray).size ≤ 4 := by decide
  have hz3 : (⟨#[40, 63]⟩ ++ ⟨#[33]⟩ ++ y ++ ⟨#[41]⟩ : ByteArray).size ≤ y.size + 5 := by
    rw [size_app, size_app]
    have : (ByteArray.mk #[41]).size = 1 := rfl
    omega
  exact ⟨⟨#[40, 63]⟩ ++ ⟨#[33]⟩ ++ y ++ ⟨#[41]⟩, rfl, by have := HY.out; rw [HLk.out] at this; exact this, by omega, HB1.out⟩

set_option maxRecDepth 100000 in
set_option maxHeartbeats 4000000 in
theorem refText_9f (k : Nat) (hk : k ≤ 1000) (ih : Texts k) (t : Tr) (w : World) (h : Tr.In w (k + 1) t) (hw : wrtS (k + 1) t) (hkd : t.kind = 9) (hng : t.neg = false) :
    Calls Tryd.prog 8 #[.agg t.cs.toArray] w (TextPost (k + 1) t w) := by
  have hl : t.parts.length = 1 := hw.2.1 (by omega)
  have hl0 : 0 < t.parts.length := by omega
  have HL := Lib.hid hl0
  have hn := h.2.1.1
  have HLk : Hid (lookT t.kind t.neg = ⟨#[40, 63]⟩ ++ ⟨#[60]⟩ ++ ⟨#[61]⟩) := Lib.hid (by rw [hkd, hng]; rfl)
  have HR := Lib.hid (fun y (hy : TextR k (t.parts[0]'hl0) y) => text_look_r (k := k) (by omega) hl0 hy)
  have hA := At.new w 27 t.cs.toArray
  have HB : Hid (Below w.heap.size w (w.alloc (.cells t.cs.toArray 27))) := Lib.hid ((Below.refl _ _).alloc (Nat.le_refl _) _)
  obtain ⟨c0, c5, c6, c7, c8⟩ := At.tr_cell hA
  rw [hkd] at c0
  rw [hng] at c8
  rw [hn, hl] at c5
  obtain ⟨b, off, ha, hb, hr⟩ := h.2.2.1 (by rw [hn]; omega)
  rw [ha] at c5
  have HRg := Lib.hid (range_below (hr 0 hl0) hb (Nat.le_refl _) HB.out)
  have HP := Lib.hid (Tr.In.next (h.2.2.2 0 hl0) HB.out)
  have HW := Lib.hid (hw.2.2.2 _ (List.getElem_mem hl0))
  have HI := Lib.hid ih
  rw [Nat.zero_mul, Nat.add_zero] at HRg
  clear h hw hkd ih hA hr hb ha hn hl c6 c7 hng
  go_enter Tryd.func8, Tryd.ntmps8
  go_wp2_with (first
    | (with_reducible show wpList _ _ _ ({ dst := _, op := .load 27 _, type := _, pos := _, after := _, guard := _ } :: _) _ _
       refine wpList_load_mid rfl 27 _ rfl b off rfl (t.parts[0]'hl0).cs _ HRg.out Tryd.underlying27 rfl (by rw [Tr.cs_length]; kernel_rfl) ?_)
    | fail)
  refine (HI.out (t.parts[0]'hl0) _ HP.out HW.out).mono ?_
  rintro e w1 ⟨y, rfl, hy, hys, hb1⟩
  have HB1 := Lib.hid (HB.out.trans (hb1.mono HB.out.size))
  have HY := Lib.hid (HR.out y hy)
  clear hb1 hy c0 c5 c8
  go_wp2_with fail
  go_ret
  have hz2 : (⟨#[40, 63]⟩ ++ ⟨#[60]⟩ ++ ⟨#[61]⟩ : ByteArray).size ≤ 4 := by decide
  have hz3 : (⟨#[40, 63]⟩ ++ ⟨#[60]⟩ ++ ⟨#[61]⟩ ++ y ++ ⟨#[41]⟩ : ByteArray).size ≤ y.size + 5 := by
    rw [size_app, size_app]
    have : (ByteArray.mk #[41]).size = 1 := rfl
    omega
  exact ⟨⟨#[40, 63]⟩ ++ ⟨#[60]⟩ ++ ⟨#[61]⟩ ++ y ++ ⟨#[41]⟩, rfl, by have := HY.out; rw [HLk.out] at this; exact this, by omega, HB1.out⟩

set_option maxRecDepth 100000 in
set_option maxHeartbeats 4000000 in
theorem refText_9t (k : Nat) (hk : k ≤ 1000) (ih : Texts k) (t : Tr) (w : World) (h : Tr.In w (k + 1) t) (hw : wrtS (k + 1) t) (hkd : t.kind = 9) (hng : t.neg = true) :
    Calls Tryd.prog 8 #[.agg t.cs.toArray] w (TextPost (k + 1) t w) := by
  have hl : t.parts.length = 1 := hw.2.1 (by omega)
  have hl0 : 0 < t.parts.length := by omega
  have HL := Lib.hid hl0
  have hn := h.2.1.1
  have HLk : Hid (lookT t.kind t.neg = ⟨#[40, 63]⟩ ++ ⟨#[60]⟩ ++ ⟨#[33]⟩) := Lib.hid (by rw [hkd, hng]; rfl)
  have HR := Lib.hid (fun y (hy : TextR k (t.parts[0]'hl0) y) => text_look_r (k := k) (by omega) hl0 hy)
  have hA := At.new w 27 t.cs.toArray
  have HB : Hid (Below w.heap.size w (w.alloc (.cells t.cs.toArray 27))) := Lib.hid ((Below.refl _ _).alloc (Nat.le_refl _) _)
  obtain ⟨c0, c5, c6, c7, c8⟩ := At.tr_cell hA
  rw [hkd] at c0
  rw [hng] at c8
  rw [hn, hl] at c5
  obtain ⟨b, off, ha, hb, hr⟩ := h.2.2.1 (by rw [hn]; omega)
  rw [ha] at c5
  have HRg := Lib.hid (range_below (hr 0 hl0) hb (Nat.le_refl _) HB.out)
  have HP := Lib.hid (Tr.In.next (h.2.2.2 0 hl0) HB.out)
  have HW := Lib.hid (hw.2.2.2 _ (List.getElem_mem hl0))
  have HI := Lib.hid ih
  rw [Nat.zero_mul, Nat.add_zero] at HRg
  clear h hw hkd ih hA hr hb ha hn hl c6 c7 hng
  go_enter Tryd.func8, Tryd.ntmps8
  go_wp2_with (first
    | (with_reducible show wpList _ _ _ ({ dst := _, op := .load 27 _, type := _, pos := _, after := _, guard := _ } :: _) _ _
       refine wpList_load_mid rfl 27 _ rfl b off rfl (t.parts[0]'hl0).cs _ HRg.out Tryd.underlying27 rfl (by rw [Tr.cs_length]; kernel_rfl) ?_)
    | fail)
  refine (HI.out (t.parts[0]'hl0) _ HP.out HW.out).mono ?_
  rintro e w1 ⟨y, rfl, hy, hys, hb1⟩
  have HB1 := Lib.hid (HB.out.trans (hb1.mono HB.out.size))
  have HY := Lib.hid (HR.out y hy)
  clear hb1 hy c0 c5 c8
  go_wp2_with fail
  go_ret
  have hz2 : (⟨#[40, 63]⟩ ++ ⟨#[60]⟩ ++ ⟨#[33]⟩ : ByteArray).size ≤ 4 := by decide
  have hz3 : (⟨#[40, 63]⟩ ++ ⟨#[60]⟩ ++ ⟨#[33]⟩ ++ y ++ ⟨#[41]⟩ : ByteArray).size ≤ y.size + 5 := by
    rw [size_app, size_app]
    have : (ByteArray.mk #[41]).size = 1 := rfl
    omega
  exact ⟨⟨#[40, 63]⟩ ++ ⟨#[60]⟩ ++ ⟨#[33]⟩ ++ y ++ ⟨#[41]⟩, rfl, by have := HY.out; rw [HLk.out] at this; exact this, by omega, HB1.out⟩

set_option maxRecDepth 100000 in
set_option maxHeartbeats 4000000 in
theorem refText_3 (k : Nat) (hk : k ≤ 1000) (ih : Texts k) (t : Tr) (w : World) (h : Tr.In w (k + 1) t) (hw : wrtS (k + 1) t) (hkd : t.kind = 3) :
    Calls Tryd.prog 8 #[.agg t.cs.toArray] w (TextPost (k + 1) t w) := by
  have hlen : t.parts.length ≤ 9223372036854775807 := by have := h.2.1; omega
  have hn := h.2.1.1
  have HH := Lib.hid h
  have HWr := Lib.hid hw
  have HK := Lib.hid hkd
  have HI := Lib.hid ih
  have HT : Hid (True) := Lib.hid trivial
  have HC := Lib.hid (At.tr_cell (At.new w 27 t.cs.toArray))
  have c0 := HC.out.1
  have c5 := HC.out.2.1
  rw [hn] at c5
  rw [hkd] at c0
  clear h hw hkd ih
  go_enter Tryd.func8, Tryd.ntmps8
  go_wp2_with fail
  clear c0
  go_loopw [4, 56] (fun o i wr => ∃ (j : Nat) (x : ByteArray), j ≤ t.parts.length ∧ x.size ≤ 30000 ∧ i = .int .i64 j ∧ o = .string x ∧ Hid (x = rowTo k t j) ∧ Hid (At wr w.heap.size 27 t.cs.toArray) ∧ Hid (Below w.heap.size w wr)) (fun _ i _ => t.parts.length - (intOf i).toNat)
  case atStart => exact ⟨0, ⟨#[]⟩, Nat.zero_le _, by decide, rfl, rfl, Lib.hid (by rw [rowTo_zero, HK.out]; rfl), Lib.hid (At.new _ _ _), Lib.hid ((Below.refl _ _).alloc (Nat.le_refl _) _)⟩
  case round =>
    obtain ⟨j, x, hj, hxs, rfl, rfl, HX, HA, HB⟩ := hrel
    clear c5
    by_cases hlt : j < t.parts.length
    · have c5 := (At.tr_cell HA.out).2.1
      rw [hn] at c5
      obtain ⟨b, off, ha, hb, hr⟩ := HH.out.2.2.1 (by rw [hn]; omega)
      have HR := Lib.hid (range_below (hr j hlt) hb (Nat.le_refl _) HB.out)
      have HP := Lib.hid (Tr.In.next (HH.out.2.2.2 j hlt) HB.out)
      have HWj := Lib.hid (HWr.out.2.2.2 _ (List.getElem_mem hlt))
      rw [ha] at c5
      clear ha hr hb
      have hjz : (0 : Int) ≤ (j : Int) := by omega
      have hjn : (j : Int) < (t.parts.length : Int) := by omega
      by_cases hj0 : 0 < j
      · have dj : decide ((0 : Int) < (j : Int)) = true := decide_eq_true (by omega)
        have HM : Hid (∀ y, TextR k t.parts[j] y → ((x ++ ⟨#[]⟩ ++ brkT y).size ≤ 30000 → x ++ ⟨#[]⟩ ++ brkT y = rowTo k t (j + 1)) ∧ (30000 < (x ++ ⟨#[]⟩ ++ brkT y).size → TextR (k + 1) t (x ++ ⟨#[]⟩ ++ brkT y))) := Lib.hid (fun y hy => by
          have hm := text_more (sep := ⟨#[]⟩) (by rw [HK.out]; decide) hlt HX.out (by rw [if_pos hj0, HK.out]; rfl) hy
          exact hm)
        go_wp2_with (first
          | (with_reducible show wpList _ _ _ ({ dst := _, op := .load 27 _, type := _, pos := _, after := _, guard := _ } :: _) _ _
             refine wpList_load_mid rfl 27 _ rfl b (off + j * 9) rfl t.parts[j].cs _ HR.out Tryd.underlying27 rfl (by rw [Tr.cs_length]; kernel_rfl) ?_)
          | fail)
        refine (HI.out t.parts[j] _ HP.out HWj.out).mono ?_
        rintro e w3 ⟨y, rfl, hy, hys, hb3⟩
        have HMy := Lib.hid (HM.out y hy)
        have HA3 := Lib.hid (At.below HA.out hb3 HA.out.lt)
        have HB3 := Lib.hid (HB.out.trans (hb3.mono HB.out.size))
        clear hb3 hy c5
        obtain ⟨z, hz⟩ : ∃ z, x ++ ⟨#[]⟩ ++ brkT y = z := ⟨_, rfl⟩
        have HZ : Hid ((x ++ ⟨#[]⟩) ++ ((⟨#[40]⟩ : ByteArray) ++ y ++ ⟨#[41]⟩) = z) := Lib.hid hz
        have hz1 : y.size ≤ z.size := by rw [← hz]; simp only [size_app, brkT_size]; omega
        have hz2 : z.size ≤ x.size + y.size + 3 := by
          have hse : (⟨#[]⟩ : ByteArray).size ≤ 1 := by decide
          rw [← hz]; simp only [size_app, brkT_size]; omega
        rw [hz] at HMy
        clear hz
        by_cases hbig : z.size ≤ 30000
        · have db : decide ((30000 : Int) < (z.size : Int)) = false := decide_eq_false (by omega)
          have HX3 := Lib.hid (HMy.out.1 hbig)
          go_wp2_with (first
            | (with_reducible show wpList _ _ _ ({ dst := _, op := .call { callee := .builtin .len, args := _, argTypes := _ }, type := _, pos := _, after := _, guard := _ } :: _) _ _
               rw [HZ.out])
            | fail)
          exact ⟨⟨j + 1, z, by omega, hbig, by go_num, rfl, HX3, HA3, HB3⟩, by simp [intOf]; omega⟩
        · have db : decide ((30000 : Int) < (z.size : Int)) = true := decide_eq_true (by omega)
          have HX3 := Lib.hid (HMy.out.2 (by omega))
          go_wp2_with (first
            | (with_reducible show wpList _ _ _ ({ dst := _, op := .call { callee := .builtin .len, args := _, argTypes := _ }, type := _, pos := _, after := _, guard := _ } :: _) _ _
               rw [HZ.out])
            | fail)
          go_ret
          exact ⟨z, rfl, HX3.out, by omega, HB3.out⟩
      · have dj : decide ((0 : Int) < (j : Int)) = false := decide_eq_false (by omega)
        have HM : Hid (∀ y, TextR k t.parts[j] y → ((x ++ brkT y).size ≤ 30000 → x ++ brkT y = rowTo k t (j + 1)) ∧ (30000 < (x ++ brkT y).size → TextR (k + 1) t (x ++ brkT y))) := Lib.hid (fun y hy => by
          have hm := text_more (sep := noT) (by rw [HK.out]; decide) hlt HX.out (by rw [if_neg hj0]) hy
          rw [app_no] at hm
          exact hm)
        go_wp2_with (first
          | (with_reducible show wpList _ _ _ ({ dst := _, op := .load 27 _, type := _, pos := _, after := _, guard := _ } :: _) _ _
             refine wpList_load_mid rfl 27 _ rfl b (off + j * 9) rfl t.parts[j].cs _ HR.out Tryd.underlying27 rfl (by rw [Tr.cs_length]; kernel_rfl) ?_)
          | fail)
        refine (HI.out t.parts[j] _ HP.out HWj.out).mono ?_
        rintro e w3 ⟨y, rfl, hy, hys, hb3⟩
        have HMy := Lib.hid (HM.out y hy)
        have HA3 := Lib.hid (At.below HA.out hb3 HA.out.lt)
        have HB3 := Lib.hid (HB.out.trans (hb3.mono HB.out.size))
        clear hb3 hy c5
        obtain ⟨z, hz⟩ : ∃ z, x ++ brkT y = z := ⟨_, rfl⟩
        have HZ : Hid (x ++ ((⟨#[40]⟩ : ByteArray) ++ y ++ ⟨#[41]⟩) = z) := Lib.hid hz
        have hz1 : y.size ≤ z.size := by rw [← hz]; simp only [size_app, brkT_size]; omega
        have hz2 : z.size ≤ x.size + y.size + 3 := by
          skip
          rw [← hz]; simp only [size_app, brkT_size]; omega
        rw [hz] at HMy
        clear hz
        by_cases hbig : z.size ≤ 30000
        · have db : decide ((30000 : Int) < (z.size : Int)) = false := decide_eq_false (by omega)
          have HX3 := Lib.hid (HMy.out.1 hbig)
          go_wp2_with (first
            | (with_reducible show wpList _ _ _ ({ dst := _, op := .call { callee := .builtin .len, args := _, argTypes := _ }, type := _, pos := _, after := _, guard := _ } :: _) _ _
               rw [HZ.out])
            | fail)
          exact ⟨⟨j + 1, z, by omega, hbig, by go_num, rfl, HX3, HA3, HB3⟩, by simp [intOf]; omega⟩
        · have db : decide ((30000 : Int) < (z.size : Int)) = true := decide_eq_true (by omega)
          have HX3 := Lib.hid (HMy.out.2 (by omega))
          go_wp2_with (first
            | (with_reducible show wpList _ _ _ ({ dst := _, op := .call { callee := .builtin .len, args := _, argTypes := _ }, type := _, pos := _, after := _, guard := _ } :: _) _ _
               rw [HZ.out])
            | fail)
          go_ret
          exact ⟨z, rfl, HX3.out, by omega, HB3.out⟩
    · obtain rfl : j = t.parts.length := by omega
      have HX2 : Hid (x = textS (k + 1) t) := Lib.hid (by rw [← rowTo_all (k := k) (by rw [HK.out]; decide), if_neg (by rw [HK.out]; decide), app_no]; exact HX.out)
      have c0 := (At.tr_cell HA.out).1
      rw [HK.out] at c0
      go_wp2_with fail
      go_ret
      exact ⟨x, rfl, Or.inl HX2.out, by omega, HB.out⟩

set_option maxRecDepth 100000 in
set_option maxHeartbeats 4000000 in
theorem refText_4 (k : Nat) (hk : k ≤ 1000) (ih : Texts k) (t : Tr) (w : World) (h : Tr.In w (k + 1) t) (hw : wrtS (k + 1) t) (hkd : t.kind = 4) :
    Calls Tryd.prog 8 #[.agg t.cs.toArray] w (TextPost (k + 1) t w) := by
  have hlen : t.parts.length ≤ 9223372036854775807 := by have := h.2.1; omega
  have hn := h.2.1.1
  have HH := Lib.hid h
  have HWr := Lib.hid hw
  have HK := Lib.hid hkd
  have HI := Lib.hid ih
  have HT : Hid (True) := Lib.hid trivial
  have HC := Lib.hid (At.tr_cell (At.new w 27 t.cs.toArray))
  have c0 := HC.out.1
  have c5 := HC.out.2.1
  rw [hn] at c5
  rw [hkd] at c0
  clear h hw hkd ih
  go_enter Tryd.func8, Tryd.ntmps8
  go_wp2_with fail
  clear c0
  go_loopw [4, 56] (fun o i wr => ∃ (j : Nat) (x : ByteArray), j ≤ t.parts.length ∧ x.size ≤ 30000 ∧ i = .int .i64 j ∧ o = .string x ∧ Hid (x = rowTo k t j) ∧ Hid (At wr w.heap.size 27 t.cs.toArray) ∧ Hid (Below w.heap.size w wr)) (fun _ i _ => t.parts.length - (intOf i).toNat)
  case atStart => exact ⟨0, ⟨#[]⟩, Nat.zero_le _, by decide, rfl, rfl, Lib.hid (by rw [rowTo_zero, HK.out]; rfl), Lib.hid (At.new _ _ _), Lib.hid ((Below.refl _ _).alloc (Nat.le_refl _) _)⟩
  case round =>
    obtain ⟨j, x, hj, hxs, rfl, rfl, HX, HA, HB⟩ := hrel
    clear c5
    by_cases hlt : j < t.parts.length
    · have c5 := (At.tr_cell HA.out).2.1
      rw [hn] at c5
      obtain ⟨b, off, ha, hb, hr⟩ := HH.out.2.2.1 (by rw [hn]; omega)
      have HR := Lib.hid (range_below (hr j hlt) hb (Nat.le_refl _) HB.out)
      have HP := Lib.hid (Tr.In.next (HH.out.2.2.2 j hlt) HB.out)
      have HWj := Lib.hid (HWr.out.2.2.2 _ (List.getElem_mem hlt))
      rw [ha] at c5
      clear ha hr hb
      have hjz : (0 : Int) ≤ (j : Int) := by omega
      have hjn : (j : Int) < (t.parts.length : Int) := by omega
      by_cases hj0 : 0 < j
      · have dj : decide ((0 : Int) < (j : Int)) = true := decide_eq_true (by omega)
        have HM : Hid (∀ y, TextR k t.parts[j] y → ((x ++ ⟨#[124]⟩ ++ brkT y).size ≤ 30000 → x ++ ⟨#[124]⟩ ++ brkT y = rowTo k t (j + 1)) ∧ (30000 < (x ++ ⟨#[124]⟩ ++ brkT y).size → TextR (k + 1) t (x ++ ⟨#[124]⟩ ++ brkT y))) := Lib.hid (fun y hy => by
          have hm := text_more (sep := ⟨#[124]⟩) (by rw [HK.out]; decide) hlt HX.out (by rw [if_pos hj0, HK.out]; rfl) hy
          exact hm)
        go_wp2_with (first
          | (with_reducible show wpList _ _ _ ({ dst := _, op := .load 27 _, type := _, pos := _, after := _, guard := _ } :: _) _ _
             refine wpList_load_mid rfl 27 _ rfl b (off + j * 9) rfl t.parts[j].cs _ HR.out Tryd.underlying27 rfl (by rw [Tr.cs_length]; kernel_rfl) ?_)
          | fail)
        refine (HI.out t.parts[j] _ HP.out HWj.out).mono ?_
        rintro e w3 ⟨y, rfl, hy, hys, hb3⟩
        have HMy := Lib.hid (HM.out y hy)
        have HA3 := Lib.hid (At.below HA.out hb3 HA.out.lt)
        have HB3 := Lib.hid (HB.out.trans (hb3.mono HB.out.size))
        clear hb3 hy c5
        obtain ⟨z, hz⟩ : ∃ z, x ++ ⟨#[124]⟩ ++ brkT y = z := ⟨_, rfl⟩
        have HZ : Hid ((x ++ ⟨#[124]⟩) ++ ((⟨#[40]⟩ : ByteArray) ++ y ++ ⟨#[41]⟩) = z) := Lib.hid hz
        have hz1 : y.size ≤ z.size := by rw [← hz]; simp only [size_app, brkT_size]; omega
        have hz2 : z.size ≤ x.size + y.size + 3 := by
          have hse : (⟨#[124]⟩ : ByteArray).size ≤ 1 := by decide
          rw [← hz]; simp only [size_app, brkT_size]; omega
        rw [hz] at HMy
        clear hz
        by_cases hbig : z.size ≤ 30000
        · have db : decide ((30000 : Int) < (z.size : Int)) = false := decide_eq_false (by omega)
          have HX3 := Lib.hid (HMy.out.1 hbig)
          go_wp2_with (first
            | (with_reducible show wpList _ _ _ ({ dst := _, op := .call { callee := .builtin .len, args := _, argTypes := _ }, type := _, pos := _, after := _, guard := _ } :: _) _ _
               rw [HZ.out])
            | fail)
          exact ⟨⟨j + 1, z, by omega, hbig, by go_num, rfl, HX3, HA3, HB3⟩, by simp [intOf]; omega⟩
        · have db : decide ((30000 : Int) < (z.size : Int)) = true := decide_eq_true (by omega)
          have HX3 := Lib.hid (HMy.out.2 (by omega))
          go_wp2_with (first
            | (with_reducible show wpList _ _ _ ({ dst := _, op := .call { callee := .builtin .len, args := _, argTypes := _ }, type := _, pos := _, after := _, guard := _ } :: _) _ _
               rw [HZ.out])
            | fail)
          go_ret
          exact ⟨z, rfl, HX3.out, by omega, HB3.out⟩
      · have dj : decide ((0 : Int) < (j : Int)) = false := decide_eq_false (by omega)
        have HM : Hid (∀ y, TextR k t.parts[j] y → ((x ++ brkT y).size ≤ 30000 → x ++ brkT y = rowTo k t (j + 1)) ∧ (30000 < (x ++ brkT y).size → TextR (k + 1) t (x ++ brkT y))) := Lib.hid (fun y hy => by
          have hm := text_more (sep := noT) (by rw [HK.out]; decide) hlt HX.out (by rw [if_neg hj0]) hy
          rw [app_no] at hm
          exact hm)
        go_wp2_with (first
          | (with_reducible show wpList _ _ _ ({ dst := _, op := .load 27 _, type := _, pos := _, after := _, guard := _ } :: _) _ _
             refine wpList_load_mid rfl 27 _ rfl b (off + j * 9) rfl t.parts[j].cs _ HR.out Tryd.underlying27 rfl (by rw [Tr.cs_length]; kernel_rfl) ?_)
          | fail)
        refine (HI.out t.parts[j] _ HP.out HWj.out).mono ?_
        rintro e w3 ⟨y, rfl, hy, hys, hb3⟩
        have HMy := Lib.hid (HM.out y hy)
        have HA3 := Lib.hid (At.below HA.out hb3 HA.out.lt)
        have HB3 := Lib.hid (HB.out.trans (hb3.mono HB.out.size))
        clear hb3 hy c5
        obtain ⟨z, hz⟩ : ∃ z, x ++ brkT y = z := ⟨_, rfl⟩
        have HZ : Hid (x ++ ((⟨#[40]⟩ : ByteArray) ++ y ++ ⟨#[41]⟩) = z) := Lib.hid hz
        have hz1 : y.size ≤ z.size := by rw [← hz]; simp only [size_app, brkT_size]; omega
        have hz2 : z.size ≤ x.size + y.size + 3 := by
          skip
          rw [← hz]; simp only [size_app, brkT_size]; omega
        rw [hz] at HMy
        clear hz
        by_cases hbig : z.size ≤ 30000
        · have db : decide ((30000 : Int) < (z.size : Int)) = false := decide_eq_false (by omega)
          have HX3 := Lib.hid (HMy.out.1 hbig)
          go_wp2_with (first
            | (with_reducible show wpList _ _ _ ({ dst := _, op := .call { callee := .builtin .len, args := _, argTypes := _ }, type := _, pos := _, after := _, guard := _ } :: _) _ _
               rw [HZ.out])
            | fail)
          exact ⟨⟨j + 1, z, by omega, hbig, by go_num, rfl, HX3, HA3, HB3⟩, by simp [intOf]; omega⟩
        · have db : decide ((30000 : Int) < (z.size : Int)) = true := decide_eq_true (by omega)
          have HX3 := Lib.hid (HMy.out.2 (by omega))
          go_wp2_with (first
            | (with_reducible show wpList _ _ _ ({ dst := _, op := .call { callee := .builtin .len, args := _, argTypes := _ }, type := _, pos := _, after := _, guard := _ } :: _) _ _
               rw [HZ.out])
            | fail)
          go_ret
          exact ⟨z, rfl, HX3.out, by omega, HB3.out⟩
    · obtain rfl : j = t.parts.length := by omega
      have HX2 : Hid (x = textS (k + 1) t) := Lib.hid (by rw [← rowTo_all (k := k) (by rw [HK.out]; decide), if_neg (by rw [HK.out]; decide), app_no]; exact HX.out)
      have c0 := (At.tr_cell HA.out).1
      rw [HK.out] at c0
      go_wp2_with fail
      go_ret
      exact ⟨x, rfl, Or.inl HX2.out, by omega, HB.out⟩

set_option maxRecDepth 100000 in
set_option maxHeartbeats 4000000 in
theorem refText_5 (k : Nat) (hk : k ≤ 1000) (ih : Texts k) (t : Tr) (w : World) (h : Tr.In w (k + 1) t) (hw : wrtS (k + 1) t) (hkd : t.kind = 5) :
    Calls Tryd.prog 8 #[.agg t.cs.toArray] w (TextPost (k + 1) t w) := by
  have hlen : t.parts.length ≤ 9223372036854775807 := by have := h.2.1; omega
  have hn := h.2.1.1
  have HH := Lib.hid h
  have HWr := Lib.hid hw
  have HK := Lib.hid hkd
  have HI := Lib.hid ih
  have HT : Hid (True) := Lib.hid trivial
  have HC := Lib.hid (At.tr_cell (At.new w 27 t.cs.toArray))
  have c0 := HC.out.1
  have c5 := HC.out.2.1
  rw [hn] at c5
  rw [hkd] at c0
  clear h hw hkd ih
  go_enter Tryd.func8, Tryd.ntmps8
  go_wp2_with fail
  clear c0
  go_loopw [4, 56] (fun o i wr => ∃ (j : Nat) (x : ByteArray), j ≤ t.parts.length ∧ x.size ≤ 30000 ∧ i = .int .i64 j ∧ o = .string x ∧ Hid (x = rowTo k t j) ∧ Hid (At wr w.heap.size 27 t.cs.toArray) ∧ Hid (Below w.heap.size w wr)) (fun _ i _ => t.parts.length - (intOf i).toNat)
  case atStart => exact ⟨0, ⟨#[]⟩, Nat.zero_le _, by decide, rfl, rfl, Lib.hid (by rw [rowTo_zero, HK.out]; rfl), Lib.hid (At.new _ _ _), Lib.hid ((Below.refl _ _).alloc (Nat.le_refl _) _)⟩
  case round =>
    obtain ⟨j, x, hj, hxs, rfl, rfl, HX, HA, HB⟩ := hrel
    clear c5
    by_cases hlt : j < t.parts.length
    · have c5 := (At.tr_cell HA.out).2.1
      rw [hn] at c5
      obtain ⟨b, off, ha, hb, hr⟩ := HH.out.2.2.1 (by rw [hn]; omega)
      have HR := Lib.hid (range_below (hr j hlt) hb (Nat.le_refl _) HB.out)
      have HP := Lib.hid (Tr.In.next (HH.out.2.2.2 j hlt) HB.out)
      have HWj := Lib.hid (HWr.out.2.2.2 _ (List.getElem_mem hlt))
      rw [ha] at c5
      clear ha hr hb
      have hjz : (0 : Int) ≤ (j : Int) := by omega
      have hjn : (j : Int) < (t.parts.length : Int) := by omega
      by_cases hj0 : 0 < j
      · have dj : decide ((0 : Int) < (j : Int)) = true := decide_eq_true (by omega)
        have HM : Hid (∀ y, TextR k t.parts[j] y → ((x ++ ⟨#[38]⟩ ++ brkT y).size ≤ 30000 → x ++ ⟨#[38]⟩ ++ brkT y = rowTo k t (j + 1)) ∧ (30000 < (x ++ ⟨#[38]⟩ ++ brkT y).size → TextR (k + 1) t (x ++ ⟨#[38]⟩ ++ brkT y))) := Lib.hid (fun y hy => by
          have hm := text_more (sep := ⟨#[38]⟩) (by rw [HK.out]; decide) hlt HX.out (by rw [if_pos hj0, HK.out]; rfl) hy
          exact hm)
        go_wp2_with (first
          | (with_reducible show wpList _ _ _ ({ dst := _, op := .load 27 _, type := _, pos := _, after := _, guard := _ } :: _) _ _
             refine wpList_load_mid rfl 27 _ rfl b (off + j * 9) rfl t.parts[j].cs _ HR.out Tryd.underlying27 rfl (by rw [Tr.cs_length]; kernel_rfl) ?_)
          | fail)
        refine (HI.out t.parts[j] _ HP.out HWj.out).mono ?_
        rintro e w3 ⟨y, rfl, hy, hys, hb3⟩
        have HMy := Lib.hid (HM.out y hy)
        have HA3 := Lib.hid (At.below HA.out hb3 HA.out.lt)
        have HB3 := Lib.hid (HB.out.trans (hb3.mono HB.out.size))
        clear hb3 hy c5
        obtain ⟨z, hz⟩ : ∃ z, x ++ ⟨#[38]⟩ ++ brkT y = z := ⟨_, rfl⟩
        have HZ : Hid ((x ++ ⟨#[38]⟩) ++ ((⟨#[40]⟩ : ByteArray) ++ y ++ ⟨#[41]⟩) = z) := Lib.hid hz
        have hz1 : y.size ≤ z.size := by rw [← hz]; simp only [size_app, brkT_size]; omega
        have hz2 : z.size ≤ x.size + y.size + 3 := by
          have hse : (⟨#[38]⟩ : ByteArray).size ≤ 1 := by decide
          rw [← hz]; simp only [size_app, brkT_size]; omega
        rw [hz] at HMy
        clear hz
        by_cases hbig : z.size ≤ 30000
        · have db : decide ((30000 : Int) < (z.size : Int)) = false := decide_eq_false (by omega)
          have HX3 := Lib.hid (HMy.out.1 hbig)
          go_wp2_with (first
            | (with_reducible show wpList _ _ _ ({ dst := _, op := .call { callee := .builtin .len, args := _, argTypes := _ }, type := _, pos := _, after := _, guard := _ } :: _) _ _
               rw [HZ.out])
            | fail)
          exact ⟨⟨j + 1, z, by omega, hbig, by go_num, rfl, HX3, HA3, HB3⟩, by simp [intOf]; omega⟩
        · have db : decide ((30000 : Int) < (z.size : Int)) = true := decide_eq_true (by omega)
          have HX3 := Lib.hid (HMy.out.2 (by omega))
          go_wp2_with (first
            | (with_reducible show wpList _ _ _ ({ dst := _, op := .call { callee := .builtin .len, args := _, argTypes := _ }, type := _, pos := _, after := _, guard := _ } :: _) _ _
               rw [HZ.out])
            | fail)
          go_ret
          exact ⟨z, rfl, HX3.out, by omega, HB3.out⟩
      · have dj : decide ((0 : Int) < (j : Int)) = false := decide_eq_false (by omega)
        have HM : Hid (∀ y, TextR k t.parts[j] y → ((x ++ brkT y).size ≤ 30000 → x ++ brkT y = rowTo k t (j + 1)) ∧ (30000 < (x ++ brkT y).size → TextR (k + 1) t (x ++ brkT y))) := Lib.hid (fun y hy => by
          have hm := text_more (sep := noT) (by rw [HK.out]; decide) hlt HX.out (by rw [if_neg hj0]) hy
          rw [app_no] at hm
          exact hm)
        go_wp2_with (first
          | (with_reducible show wpList _ _ _ ({ dst := _, op := .load 27 _, type := _, pos := _, after := _, guard := _ } :: _) _ _
             refine wpList_load_mid rfl 27 _ rfl b (off + j * 9) rfl t.parts[j].cs _ HR.out Tryd.underlying27 rfl (by rw [Tr.cs_length]; kernel_rfl) ?_)
          | fail)
        refine (HI.out t.parts[j] _ HP.out HWj.out).mono ?_
        rintro e w3 ⟨y, rfl, hy, hys, hb3⟩
        have HMy := Lib.hid (HM.out y hy)
        have HA3 := Lib.hid (At.below HA.out hb3 HA.out.lt)
        have HB3 := Lib.hid (HB.out.trans (hb3.mono HB.out.size))
        clear hb3 hy c5
        obtain ⟨z, hz⟩ : ∃ z, x ++ brkT y = z := ⟨_, rfl⟩
        have HZ : Hid (x ++ ((⟨#[40]⟩ : ByteArray) ++ y ++ ⟨#[41]⟩) = z) := Lib.hid hz
        have hz1 : y.size ≤ z.size := by rw [← hz]; simp only [size_app, brkT_size]; omega
        have hz2 : z.size ≤ x.size + y.size + 3 := by
          skip
          rw [← hz]; simp only [size_app, brkT_size]; omega
        rw [hz] at HMy
        clear hz
        by_cases hbig : z.size ≤ 30000
        · have db : decide ((30000 : Int) < (z.size : Int)) = false := decide_eq_false (by omega)
          have HX3 := Lib.hid (HMy.out.1 hbig)
          go_wp2_with (first
            | (with_reducible show wpList _ _ _ ({ dst := _, op := .call { callee := .builtin .len, args := _, argTypes := _ }, type := _, pos := _, after := _, guard := _ } :: _) _ _
               rw [HZ.out])
            | fail)
          exact ⟨⟨j + 1, z, by omega, hbig, by go_num, rfl, HX3, HA3, HB3⟩, by simp [intOf]; omega⟩
        · have db : decide ((30000 : Int) < (z.size : Int)) = true := decide_eq_true (by omega)
          have HX3 := Lib.hid (HMy.out.2 (by omega))
          go_wp2_with (first
            | (with_reducible show wpList _ _ _ ({ dst := _, op := .call { callee := .builtin .len, args := _, argTypes := _ }, type := _, pos := _, after := _, guard := _ } :: _) _ _
               rw [HZ.out])
            | fail)
          go_ret
          exact ⟨z, rfl, HX3.out, by omega, HB3.out⟩
    · obtain rfl : j = t.parts.length := by omega
      have HX2 : Hid (x = textS (k + 1) t) := Lib.hid (by rw [← rowTo_all (k := k) (by rw [HK.out]; decide), if_neg (by rw [HK.out]; decide), app_no]; exact HX.out)
      have c0 := (At.tr_cell HA.out).1
      rw [HK.out] at c0
      go_wp2_with fail
      go_ret
      exact ⟨x, rfl, Or.inl HX2.out, by omega, HB.out⟩

set_option maxRecDepth 100000 in
set_option maxHeartbeats 4000000 in
theorem refText_6 (k : Nat) (hk : k ≤ 1000) (ih : Texts k) (t : Tr) (w : World) (h : Tr.In w (k + 1) t) (hw : wrtS (k + 1) t) (hkd : t.kind = 6) :
    Calls Tryd.prog 8 #[.agg t.cs.toArray] w (TextPost (k + 1) t w) := by
  have hlen : t.parts.length ≤ 9223372036854775807 := by have := h.2.1; omega
  have hn := h.2.1.1
  have HH := Lib.hid h
  have HWr := Lib.hid hw
  have HK := Lib.hid hkd
  have HI := Lib.hid ih
  have HT : Hid (True) := Lib.hid trivial
  have HC := Lib.hid (At.tr_cell (At.new w 27 t.cs.toArray))
  have c0 := HC.out.1
  have c5 := HC.out.2.1
  rw [hn] at c5
  rw [hkd] at c0
  clear h hw hkd ih
  go_enter Tryd.func8, Tryd.ntmps8
  go_wp2_with fail
  clear c0
  go_loopw [4, 56] (fun o i wr => ∃ (j : Nat) (x : ByteArray), j ≤ t.parts.length ∧ x.size ≤ 30000 ∧ i = .int .i64 j ∧ o = .string x ∧ Hid (x = rowTo k t j) ∧ Hid (At wr w.heap.size 27 t.cs.toArray) ∧ Hid (Below w.heap.size w wr)) (fun _ i _ => t.parts.length - (intOf i).toNat)
  case atStart => exact ⟨0, ⟨#[126]⟩, Nat.zero_le _, by decide, rfl, rfl, Lib.hid (by rw [rowTo_zero, HK.out]; rfl), Lib.hid (At.new _ _ _), Lib.hid ((Below.refl _ _).alloc (Nat.le_refl _) _)⟩
  case round =>
    obtain ⟨j, x, hj, hxs, rfl, rfl, HX, HA, HB⟩ := hrel
    clear c5
    by_cases hlt : j < t.parts.length
    · have c5 := (At.tr_cell HA.out).2.1
      rw [hn] at c5
      obtain ⟨b, off, ha, hb, hr⟩ := HH.out.2.2.1 (by rw [hn]; omega)
      have HR := Lib.hid (range_below (hr j hlt) hb (Nat.le_refl _) HB.out)
      have HP := Lib.hid (Tr.In.next (HH.out.2.2.2 j hlt) HB.out)
      have HWj := Lib.hid (HWr.out.2.2.2 _ (List.getElem_mem hlt))
      rw [ha] at c5
      clear ha hr hb
      have hjz : (0 : Int) ≤ (j : Int) := by omega
      have hjn : (j : Int) < (t.parts.length : Int) := by omega
      by_cases hj0 : 0 < j
      · have dj : decide ((0 : Int) < (j : Int)) = true := decide_eq_true (by omega)
        have HM : Hid (∀ y, TextR k t.parts[j] y → ((x ++ ⟨#[]⟩ ++ brkT y).size ≤ 30000 → x ++ ⟨#[]⟩ ++ brkT y = rowTo k t (j + 1)) ∧ (30000 < (x ++ ⟨#[]⟩ ++ brkT y).size → TextR (k + 1) t (x ++ ⟨#[]⟩ ++ brkT y))) := Lib.hid (fun y hy => by
          have hm := text_more (sep := ⟨#[]⟩) (by rw [HK.out]; decide) hlt HX.out (by rw [if_pos hj0, HK.out]; rfl) hy
          exact hm)
        go_wp2_with (first
          | (with_reducible show wpList _ _ _ ({ dst := _, op := .load 27 _, type := _, pos := _, after := _, guard := _ } :: _) _ _
             refine wpList_load_mid rfl 27 _ rfl b (off + j * 9) rfl t.parts[j].cs _ HR.out Tryd.underlying27 rfl (by rw [Tr.cs_length]; kernel_rfl) ?_)
          | fail)
        refine (HI.out t.parts[j] _ HP.out HWj.out).mono ?_
        rintro e w3 ⟨y, rfl, hy, hys, hb3⟩
        have HMy := Lib.hid (HM.out y hy)
        have HA3 := Lib.hid (At.below HA.out hb3 HA.out.lt)
        have HB3 := Lib.hid (HB.out.trans (hb3.mono HB.out.size))
        clear hb3 hy c5
        obtain ⟨z, hz⟩ : ∃ z, x ++ ⟨#[]⟩ ++ brkT y = z := ⟨_, rfl⟩
        have HZ : Hid ((x ++ ⟨#[]⟩) ++ ((⟨#[40]⟩ : ByteArray) ++ y ++ ⟨#[41]⟩) = z) := Lib.hid hz
        have hz1 : y.size ≤ z.size := by rw [← hz]; simp only [size_app, brkT_size]; omega
        have hz2 : z.size ≤ x.size + y.size + 3 := by
          have hse : (⟨#[]⟩ : ByteArray).size ≤ 1 := by decide
          rw [← hz]; simp only [size_app, brkT_size]; omega
        rw [hz] at HMy
        clear hz
        by_cases hbig : z.size ≤ 30000
        · have db : decide ((30000 : Int) < (z.size : Int)) = false := decide_eq_false (by omega)
          have HX3 := Lib.hid (HMy.out.1 hbig)
          go_wp2_with (first
            | (with_reducible show wpList _ _ _ ({ dst := _, op := .call { callee := .builtin .len, args := _, argTypes := _ }, type := _, pos := _, after := _, guard := _ } :: _) _ _
               rw [HZ.out])
            | fail)
          exact ⟨⟨j + 1, z, by omega, hbig, by go_num, rfl, HX3, HA3, HB3⟩, by simp [intOf]; omega⟩
        · have db : decide ((30000 : Int) < (z.size : Int)) = true := decide_eq_true (by omega)
          have HX3 := Lib.hid (HMy.out.2 (by omega))
          go_wp2_with (first
            | (with_reducible show wpList _ _ _ ({ dst := _, op := .call { callee := .builtin .len, args := _, argTypes := _ }, type := _, pos := _, after := _, guard := _ } :: _) _ _
               rw [HZ.out])
            | fail)
          go_ret
          exact ⟨z, rfl, HX3.out, by omega, HB3.out⟩
      · have dj : decide ((0 : Int) < (j : Int)) = false := decide_eq_false (by omega)
        have HM : Hid (∀ y, TextR k t.parts[j] y → ((x ++ brkT y).size ≤ 30000 → x ++ brkT y = rowTo k t (j + 1)) ∧ (30000 < (x ++ brkT y).size → TextR (k + 1) t (x ++ brkT y))) := Lib.hid (fun y hy => by
          have hm := text_more (sep := noT) (by rw [HK.out]; decide) hlt HX.out (by rw [if_neg hj0]) hy
          rw [app_no] at hm
          exact hm)
        go_wp2_with (first
          | (with_reducible show wpList _ _ _ ({ dst := _, op := .load 27 _, type := _, pos := _, after := _, guard := _ } :: _) _ _
             refine wpList_load_mid rfl 27 _ rfl b (off + j * 9) rfl t.parts[j].cs _ HR.out Tryd.underlying27 rfl (by rw [Tr.cs_length]; kernel_rfl) ?_)
          | fail)
        refine (HI.out t.parts[j] _ HP.out HWj.out).mono ?_
        rintro e w3 ⟨y, rfl, hy, hys, hb3⟩
        have HMy := Lib.hid (HM.out y hy)
        have HA3 := Lib.hid (At.below HA.out hb3 HA.out.lt)
        have HB3 := Lib.hid (HB.out.trans (hb3.mono HB.out.size))
        clear hb3 hy c5
        obtain ⟨z, hz⟩ : ∃ z, x ++ brkT y = z := ⟨_, rfl⟩
        have HZ : Hid (x ++ ((⟨#[40]⟩ : ByteArray) ++ y ++ ⟨#[41]⟩) = z) := Lib.hid hz
        have hz1 : y.size ≤ z.size := by rw [← hz]; simp only [size_app, brkT_size]; omega
        have hz2 : z.size ≤ x.size + y.size + 3 := by
          skip
          rw [← hz]; simp only [size_app, brkT_size]; omega
        rw [hz] at HMy
        clear hz
        by_cases hbig : z.size ≤ 30000
        · have db : decide ((30000 : Int) < (z.size : Int)) = false := decide_eq_false (by omega)
          have HX3 := Lib.hid (HMy.out.1 hbig)
          go_wp2_with (first
            | (with_reducible show wpList _ _ _ ({ dst := _, op := .call { callee := .builtin .len, args := _, argTypes := _ }, type := _, pos := _, after := _, guard := _ } :: _) _ _
               rw [HZ.out])
            | fail)
          exact ⟨⟨j + 1, z, by omega, hbig, by go_num, rfl, HX3, HA3, HB3⟩, by simp [intOf]; omega⟩
        · have db : decide ((30000 : Int) < (z.size : Int)) = true := decide_eq_true (by omega)
          have HX3 := Lib.hid (HMy.out.2 (by omega))
          go_wp2_with (first
            | (with_reducible show wpList _ _ _ ({ dst := _, op := .call { callee := .builtin .len, args := _, argTypes := _ }, type := _, pos := _, after := _, guard := _ } :: _) _ _
               rw [HZ.out])
            | fail)
          go_ret
          exact ⟨z, rfl, HX3.out, by omega, HB3.out⟩
    · obtain rfl : j = t.parts.length := by omega
      have HX2 : Hid (x = textS (k + 1) t) := Lib.hid (by rw [← rowTo_all (k := k) (by rw [HK.out]; decide), if_neg (by rw [HK.out]; decide), app_no]; exact HX.out)
      have c0 := (At.tr_cell HA.out).1
      rw [HK.out] at c0
      go_wp2_with fail
      go_ret
      exact ⟨x, rfl, Or.inl HX2.out, by omega, HB.out⟩

set_option maxRecDepth 100000 in
set_option maxHeartbeats 4000000 in
theorem refText_7 (k : Nat) (hk : k ≤ 1000) (ih : Texts k) (t : Tr) (w : World) (h : Tr.In w (k + 1) t) (hw : wrtS (k + 1) t) (hkd : t.kind = 7) :
    Calls Tryd.prog 8 #[.agg t.cs.toArray] w (TextPost (k + 1) t w) := by
  have hlen : t.parts.length ≤ 9223372036854775807 := by have := h.2.1; omega
  have hn := h.2.1.1
  have HH := Lib.hid h
  have HWr := Lib.hid hw
  have HK := Lib.hid hkd
  have HI := Lib.hid ih
  have HT : Hid (timesF t) := Lib.hid (hw.2.2.1 hkd)
  have HC := Lib.hid (At.tr_cell (At.new w 27 t.cs.toArray))
  have c0 := HC.out.1
  have c5 := HC.out.2.1
  rw [hn] at c5
  rw [hkd] at c0
  clear h hw hkd ih
  go_enter Tryd.func8, Tryd.ntmps8
  go_wp2_with fail
  clear c0
  go_loopw [4, 56] (fun o i wr => ∃ (j : Nat) (x : ByteArray), j ≤ t.parts.length ∧ x.size ≤ 30000 ∧ i = .int .i64 j ∧ o = .string x ∧ Hid (x = rowTo k t j) ∧ Hid (At wr w.heap.size 27 t.cs.toArray) ∧ Hid (Below w.heap.size w wr)) (fun _ i _ => t.parts.length - (intOf i).toNat)
  case atStart => exact ⟨0, ⟨#[]⟩, Nat.zero_le _, by decide, rfl, rfl, Lib.hid (by rw [rowTo_zero, HK.out]; rfl), Lib.hid (At.new _ _ _), Lib.hid ((Below.refl _ _).alloc (Nat.le_refl _) _)⟩
  case round =>
    obtain ⟨j, x, hj, hxs, rfl, rfl, HX, HA, HB⟩ := hrel
    clear c5
    by_cases hlt : j < t.parts.length
    · have c5 := (At.tr_cell HA.out).2.1
      rw [hn] at c5
      obtain ⟨b, off, ha, hb, hr⟩ := HH.out.2.2.1 (by rw [hn]; omega)
      have HR := Lib.hid (range_below (hr j hlt) hb (Nat.le_refl _) HB.out)
      have HP := Lib.hid (Tr.In.next (HH.out.2.2.2 j hlt) HB.out)
      have HWj := Lib.hid (HWr.out.2.2.2 _ (List.getElem_mem hlt))
      rw [ha] at c5
      clear ha hr hb
      have hjz : (0 : Int) ≤ (j : Int) := by omega
      have hjn : (j : Int) < (t.parts.length : Int) := by omega
      by_cases hj0 : 0 < j
      · have dj : decide ((0 : Int) < (j : Int)) = true := decide_eq_true (by omega)
        have HM : Hid (∀ y, TextR k t.parts[j] y → ((x ++ ⟨#[]⟩ ++ brkT y).size ≤ 30000 → x ++ ⟨#[]⟩ ++ brkT y = rowTo k t (j + 1)) ∧ (30000 < (x ++ ⟨#[]⟩ ++ brkT y).size → TextR (k + 1) t (x ++ ⟨#[]⟩ ++ brkT y))) := Lib.hid (fun y hy => by
          have hm := text_more (sep := ⟨#[]⟩) (by rw [HK.out]; decide) hlt HX.out (by rw [if_pos hj0, HK.out]; rfl) hy
          exact hm)
        go_wp2_with (first
          | (with_reducible show wpList _ _ _ ({ dst := _, op := .load 27 _, type := _, pos := _, after := _, guard := _ } :: _) _ _
             refine wpList_load_mid rfl 27 _ rfl b (off + j * 9) rfl t.parts[j].cs _ HR.out Tryd.underlying27 rfl (by rw [Tr.cs_length]; kernel_rfl) ?_)
          | fail)
        refine (HI.out t.parts[j] _ HP.out HWj.out).mono ?_
        rintro e w3 ⟨y, rfl, hy, hys, hb3⟩
        have HMy := Lib.hid (HM.out y hy)
        have HA3 := Lib.hid (At.below HA.out hb3 HA.out.lt)
        have HB3 := Lib.hid (HB.out.trans (hb3.mono HB.out.size))
        clear hb3 hy c5
        obtain ⟨z, hz⟩ : ∃ z, x ++ ⟨#[]⟩ ++ brkT y = z := ⟨_, rfl⟩
        have HZ : Hid ((x ++ ⟨#[]⟩) ++ ((⟨#[40]⟩ : ByteArray) ++ y ++ ⟨#[41]⟩) = z) := Lib.hid hz
        have hz1 : y.size ≤ z.size := by rw [← hz]; simp only [size_app, brkT_size]; omega
        have hz2 : z.size ≤ x.size + y.size + 3 := by
          have hse : (⟨#[]⟩ : ByteArray).size ≤ 1 := by decide
          rw [← hz]; simp only [size_app, brkT_size]; omega
        rw [hz] at HMy
        clear hz
        by_cases hbig : z.size ≤ 30000
        · have db : decide ((30000 : Int) < (z.size : Int)) = false := decide_eq_false (by omega)
          have HX3 := Lib.hid (HMy.out.1 hbig)
          go_wp2_with (first
            | (with_reducible show wpList _ _ _ ({ dst := _, op := .call { callee := .builtin .len, args := _, argTypes := _ }, type := _, pos := _, after := _, guard := _ } :: _) _ _
               rw [HZ.out])
            | fail)
          exact ⟨⟨j + 1, z, by omega, hbig, by go_num, rfl, HX3, HA3, HB3⟩, by simp [intOf]; omega⟩
        · have db : decide ((30000 : Int) < (z.size : Int)) = true := decide_eq_true (by omega)
          have HX3 := Lib.hid (HMy.out.2 (by omega))
          go_wp2_with (first
            | (with_reducible show wpList _ _ _ ({ dst := _, op := .call { callee := .builtin .len, args := _, argTypes := _ }, type := _, pos := _, after := _, guard := _ } :: _) _ _
               rw [HZ.out])
            | fail)
          go_ret
          exact ⟨z, rfl, HX3.out, by omega, HB3.out⟩
      · have dj : decide ((0 : Int) < (j : Int)) = false := decide_eq_false (by omega)
        have HM : Hid (∀ y, TextR k t.parts[j] y → ((x ++ brkT y).size ≤ 30000 → x ++ brkT y = rowTo k t (j + 1)) ∧ (30000 < (x ++ brkT y).size → TextR (k + 1) t (x ++ brkT y))) := Lib.hid (fun y hy => by
          have hm := text_more (sep := noT) (by rw [HK.out]; decide) hlt HX.out (by rw [if_neg hj0]) hy
          rw [app_no] at hm
          exact hm)
        go_wp2_with (first
          | (with_reducible show wpList _ _ _ ({ dst := _, op := .load 27 _, type := _, pos := _, after := _, guard := _ } :: _) _ _
             refine wpList_load_mid rfl 27 _ rfl b (off + j * 9) rfl t.parts[j].cs _ HR.out Tryd.underlying27 rfl (by rw [Tr.cs_length]; kernel_rfl) ?_)
          | fail)
        refine (HI.out t.parts[j] _ HP.out HWj.out).mono ?_
        rintro e w3 ⟨y, rfl, hy, hys, hb3⟩
        have HMy := Lib.hid (HM.out y hy)
        have HA3 := Lib.hid (At.below HA.out hb3 HA.out.lt)
        have HB3 := Lib.hid (HB.out.trans (hb3.mono HB.out.size))
        clear hb3 hy c5
        obtain ⟨z, hz⟩ : ∃ z, x ++ brkT y = z := ⟨_, rfl⟩
        have HZ : Hid (x ++ ((⟨#[40]⟩ : ByteArray) ++ y ++ ⟨#[41]⟩) = z) := Lib.hid hz
        have hz1 : y.size ≤ z.size := by rw [← hz]; simp only [size_app, brkT_size]; omega
        have hz2 : z.size ≤ x.size + y.size + 3 := by
          skip
          rw [← hz]; simp only [size_app, brkT_size]; omega
        rw [hz] at HMy
        clear hz
        by_cases hbig : z.size ≤ 30000
        · have db : decide ((30000 : Int) < (z.size : Int)) = false := decide_eq_false (by omega)
          have HX3 := Lib.hid (HMy.out.1 hbig)
          go_wp2_with (first
            | (with_reducible show wpList _ _ _ ({ dst := _, op := .call { callee := .builtin .len, args := _, argTypes := _ }, type := _, pos := _, after := _, guard := _ } :: _) _ _
               rw [HZ.out])
            | fail)
          exact ⟨⟨j + 1, z, by omega, hbig, by go_num, rfl, HX3, HA3, HB3⟩, by simp [intOf]; omega⟩
        · have db : decide ((30000 : Int) < (z.size : Int)) = true := decide_eq_true (by omega)
          have HX3 := Lib.hid (HMy.out.2 (by omega))
          go_wp2_with (first
            | (with_reducible show wpList _ _ _ ({ dst := _, op := .call { callee := .builtin .len, args := _, argTypes := _ }, type := _, pos := _, after := _, guard := _ } :: _) _ _
               rw [HZ.out])
            | fail)
          go_ret
          exact ⟨z, rfl, HX3.out, by omega, HB3.out⟩
    · obtain rfl : j = t.parts.length := by omega
      obtain ⟨c0, c5, c6, c7, c8⟩ := At.tr_cell HA.out
      obtain ⟨lo, hlo, hlo2⟩ : ∃ lo : Nat, t.lo = lo ∧ lo ≤ 20 := ⟨t.lo.toNat, by have := HT.out; unfold timesF at this; omega, by have := HT.out; unfold timesF at this; omega⟩
      rw [HK.out] at c0
      rw [hlo] at c6
      have hd1 := digT_len lo
      by_cases hh : (0 : Int) ≤ t.hi
      · obtain ⟨hi, hhi, hhi2⟩ : ∃ hi : Nat, t.hi = hi ∧ hi ≤ 20 := ⟨t.hi.toNat, by omega, by have := HT.out; unfold timesF at this; omega⟩
        have HX2 : Hid (x ++ (⟨#[123]⟩ ++ digT lo ++ ⟨#[44]⟩) ++ digT hi ++ ⟨#[125]⟩ = textS (k + 1) t) := Lib.hid (by
          rw [← rowTo_all (k := k) (by rw [HK.out]; decide), if_pos HK.out, ← HX.out]
          unfold boundsT
          rw [if_pos hh, hlo, hhi, Int.toNat_natCast, Int.toNat_natCast]
          simp only [app_app])
        have dh : decide ((0 : Int) ≤ (hi : Int)) = true := decide_eq_true (by omega)
        have hd2 := digT_len hi
        rw [hhi] at c7
        clear hh
        go_wp2_with fail
        refine (refDigits lo hlo2 _).mono ?_
        rintro e w3 ⟨rfl, hb3⟩
        have HB3 := Lib.hid (HB.out.trans (hb3.mono HB.out.size))
        obtain ⟨c0', c5', c6', c7', c8'⟩ := At.tr_cell (At.below HA.out hb3 HA.out.lt)
        rw [hhi] at c7'
        clear hb3 c0 c5 c6 c7 c8
        go_wp2_with fail
        refine (refDigits hi hhi2 _).mono ?_
        rintro e w4 ⟨rfl, hb4⟩
        have HB4 := Lib.hid (HB3.out.trans (hb4.mono HB3.out.size))
        clear hb4
        go_wp2_with fail
        go_ret
        exact ⟨x ++ (⟨#[123]⟩ ++ digT lo ++ ⟨#[44]⟩) ++ digT hi ++ ⟨#[125]⟩, rfl, Or.inl HX2.out, by
          simp only [size_app]
          have e1 : (ByteArray.mk #[123]).size = 1 := rfl
          have e2 : (ByteArray.mk #[44]).size = 1 := rfl
          have e3 : (ByteArray.mk #[125]).size = 1 := rfl
          omega, HB4.out⟩
      · have HX2 : Hid (x ++ (⟨#[123]⟩ ++ digT lo ++ ⟨#[44]⟩) ++ ⟨#[125]⟩ = textS (k + 1) t) := Lib.hid (by
          rw [← rowTo_all (k := k) (by rw [HK.out]; decide), if_pos HK.out, ← HX.out]
          unfold boundsT
          rw [if_neg hh, hlo, Int.toNat_natCast]
          simp only [app_app, no_app])
        have dh : decide ((0 : Int) ≤ t.hi) = false := decide_eq_false hh
        go_wp2_with fail
        refine (refDigits lo hlo2 _).mono ?_
        rintro e w3 ⟨rfl, hb3⟩
        have HB3 := Lib.hid (HB.out.trans (hb3.mono HB.out.size))
        obtain ⟨c0', c5', c6', c7', c8'⟩ := At.tr_cell (At.below HA.out hb3 HA.out.lt)
        clear hb3 c0 c5 c6 c7 c8
        go_wp2_with fail
        go_ret
        exact ⟨x ++ (⟨#[123]⟩ ++ digT lo ++ ⟨#[44]⟩) ++ ⟨#[125]⟩, rfl, Or.inl HX2.out, by
          simp only [size_app]
          have e1 : (ByteArray.mk #[123]).size = 1 := rfl
          have e2 : (ByteArray.mk #[44]).size = 1 := rfl
          have e3 : (ByteArray.mk #[125]).size = 1 := rfl
          omega, HB3.out⟩

theorem refText : ∀ k, k ≤ 1000 → Texts k
  | 0, _ => fun _ _ h => h.elim
  | k + 1, hk => fun t w h hw => by
    have ih := refText k (by omega)
    have hk' : k ≤ 1000 := by omega
    have hr := hw.1
    obtain h1 | h1 | h1 | h1 | h1 | h1 | h1 | h1 | h1 | h1 | h1 : t.kind = 1 ∨ t.kind = 2 ∨ t.kind = 3 ∨ t.kind = 4 ∨ t.kind = 5 ∨ t.kind = 6 ∨ t.kind = 7 ∨ t.kind = 8 ∨ t.kind = 9 ∨ t.kind = 10 ∨ t.kind = 11 := by omega
    · exact refText_1 k hk' ih t w h hw h1
    · exact refText_2 k hk' ih t w h hw h1
    · exact refText_3 k hk' ih t w h hw h1
    · exact refText_4 k hk' ih t w h hw h1
    · exact refText_5 k hk' ih t w h hw h1
    · exact refText_6 k hk' ih t w h hw h1
    · exact refText_7 k hk' ih t w h hw h1
    · cases hg : t.neg with
      | false => exact refText_8f k hk' ih t w h hw h1 hg
      | true => exact refText_8t k hk' ih t w h hw h1 hg
    · cases hg : t.neg with
      | false => exact refText_9f k hk' ih t w h hw h1 hg
      | true => exact refText_9t k hk' ih t w h hw h1 hg
    · exact refText_10 k hk' ih t w h hw h1
    · exact refText_11 k hk' ih t w h hw h1
end Go.Proofs.YtibmcdgnponpmaaDoor
