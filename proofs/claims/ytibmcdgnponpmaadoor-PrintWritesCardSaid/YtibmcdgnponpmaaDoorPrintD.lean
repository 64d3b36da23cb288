/- What package print writes of a pattern: its text. -/
import Derived.Test.YtibmcdgnponpmaaDoorPrintC
import Derived.Deep.RegionWith
namespace Go.Proofs.YtibmcdgnponpmaaDoor
open Go.RowKit
set_option linter.unusedSimpArgs false
set_option linter.unusedVariables false

theorem digT_some (n : Nat) : 1 ≤ (digT n).size := by
  unfold digT digL
  split <;> (show 1 ≤ _; first | exact Nat.le_refl _ | exact Nat.le_succ _)

set_option maxRecDepth 100000 in
set_option maxHeartbeats 4000000 in
theorem pWrite_1 (b k : Nat) (hgb : 0 < b) (ih : Writes b k) (t : Tr) (x : ByteArray) (w : World) (h : Pre b w (k + 1) t) (hb : Bd w b x) (hs : x.size + (textS (k + 1) t).size + (4000 + 20 * (k + 1)) ≤ 1000000000) (hkd : t.kind = 1) :
    Calls Tryd.prog 12 #[.pointer (some ⟨b, 0, none⟩), .agg t.cs.toArray] w (Wrote b x (textS (k + 1) t) w) := by
  have HV := Lib.hid (text_1 (k := k) hkd)
  obtain ⟨w0, hw0⟩ : ∃ w0, w0 = w.alloc (.cells t.cs.toArray 27) := ⟨_, rfl⟩
  have hb0 : Below w.heap.size w w0 := by rw [hw0]; exact (Below.refl _ _).alloc (Nat.le_refl _) _
  have hk0 := KeepB.of hb0 hb.lt
  have HBd := Lib.hid (hb.next hb0)
  have HP0 := Lib.hid (h.keepB hk0 hb hgb)
  have HK0 := Lib.hid hk0
  have hbox : At w0 w.heap.size 27 t.cs.toArray := by rw [hw0]; exact At.new _ _ _
  have HBox := Lib.hid hbox
  have HOff : Hid (w.heap.size ≠ b ∧ some w.heap.size ≠ bufOf w0 b) := Lib.hid (by
    have h1 := hb.off (Nat.le_refl w.heap.size)
    have e : bufOf w0 b = bufOf w b := bufOf_same (hb0.block b hb.lt)
    rw [e]; exact h1)
  have HI := Lib.hid ih
  have HW0 := Lib.hid hw0
  obtain ⟨c0, c5, c6, c7, c8⟩ := At.tr_cell hbox
  obtain ⟨c1, c2, c3, c4⟩ := At.tr_set hbox
  rw [hkd] at c0
  rw [hw0] at c0 c1 c2 c3 c4 c5 c6 c7 c8
  have HK := Lib.hid hkd
  have hsz : x.size + 4000 ≤ 1000000000 := by omega
  clear h hb hb0 hw0 hk0 ih hkd hbox hs
  go_enter Tryd.func12, Tryd.ntmps12
  go_wp2_with fail
  rw [← HW0.out]
  refine (bWriteString b x ⟨#[40, 41]⟩ _ HBd.out (by show x.size + 2 ≤ _; omega)).mono ?_
  rintro e w1 ⟨rfl, h1, hk1⟩
  have HB1 := Lib.hid h1
  have HK1 := Lib.hid (HK0.out.trans hk1)
  clear h1 hk1
  go_wp2_with fail
  go_end0
  refine ⟨rfl, ?_, HK1.out⟩
  rw [HV.out]
  have := HB1.out
  first
    | exact this
    | (simp only [app_app] at this ⊢
       exact this)

set_option maxRecDepth 100000 in
set_option maxHeartbeats 4000000 in
theorem pWrite_2 (b k : Nat) (hgb : 0 < b) (ih : Writes b k) (t : Tr) (x : ByteArray) (w : World) (h : Pre b w (k + 1) t) (hb : Bd w b x) (hs : x.size + (textS (k + 1) t).size + (4000 + 20 * (k + 1)) ≤ 1000000000) (hkd : t.kind = 2) :
    Calls Tryd.prog 12 #[.pointer (some ⟨b, 0, none⟩), .agg t.cs.toArray] w (Wrote b x (textS (k + 1) t) w) := by
  have HV := Lib.hid (text_2 (k := k) hkd)
  obtain ⟨w0, hw0⟩ : ∃ w0, w0 = w.alloc (.cells t.cs.toArray 27) := ⟨_, rfl⟩
  have hb0 : Below w.heap.size w w0 := by rw [hw0]; exact (Below.refl _ _).alloc (Nat.le_refl _) _
  have hk0 := KeepB.of hb0 hb.lt
  have HBd := Lib.hid (hb.next hb0)
  have HP0 := Lib.hid (h.keepB hk0 hb hgb)
  have HK0 := Lib.hid hk0
  have hbox : At w0 w.heap.size 27 t.cs.toArray := by rw [hw0]; exact At.new _ _ _
  have HBox := Lib.hid hbox
  have HOff : Hid (w.heap.size ≠ b ∧ some w.heap.size ≠ bufOf w0 b) := Lib.hid (by
    have h1 := hb.off (Nat.le_refl w.heap.size)
    have e : bufOf w0 b = bufOf w b := bufOf_same (hb0.block b hb.lt)
    rw [e]; exact h1)
  have HI := Lib.hid ih
  have HW0 := Lib.hid hw0
  obtain ⟨c0, c5, c6, c7, c8⟩ := At.tr_cell hbox
  obtain ⟨c1, c2, c3, c4⟩ := At.tr_set hbox
  rw [hkd] at c0
  rw [hw0] at c0 c1 c2 c3 c4 c5 c6 c7 c8
  have HK := Lib.hid hkd
  have hsz : x.size + 3000 ≤ 1000000000 := by omega
  have HSet := Lib.hid h.lies.1.1
  clear h hb hb0 hw0 hk0 ih hkd hbox hs
  go_enter Tryd.func12, Tryd.ntmps12
  go_wp2_with fail
  rw [← HW0.out]
  refine (pSet b t.set HSet.out x w0 HBd.out HP0.out.tab hgb hsz).mono ?_
  rintro e w1 ⟨rfl, h1, hk1⟩
  have HB1 := Lib.hid h1
  have HK1 := Lib.hid (HK0.out.trans hk1)
  clear h1 hk1
  go_wp2_with fail
  go_end0
  refine ⟨rfl, ?_, HK1.out⟩
  rw [HV.out]
  have := HB1.out
  first
    | exact this
    | (simp only [app_app] at this ⊢
       exact this)

set_option maxRecDepth 100000 in
set_option maxHeartbeats 4000000 in
theorem pWrite_10 (b k : Nat) (hgb : 0 < b) (ih : Writes b k) (t : Tr) (x : ByteArray) (w : World) (h : Pre b w (k + 1) t) (hb : Bd w b x) (hs : x.size + (textS (k + 1) t).size + (4000 + 20 * (k + 1)) ≤ 1000000000) (hkd : t.kind = 10) :
    Calls Tryd.prog 12 #[.pointer (some ⟨b, 0, none⟩), .agg t.cs.toArray] w (Wrote b x (textS (k + 1) t) w) := by
  have HV := Lib.hid (text_10 (k := k) hkd)
  obtain ⟨w0, hw0⟩ : ∃ w0, w0 = w.alloc (.cells t.cs.toArray 27) := ⟨_, rfl⟩
  have hb0 : Below w.heap.size w w0 := by rw [hw0]; exact (Below.refl _ _).alloc (Nat.le_refl _) _
  have hk0 := KeepB.of hb0 hb.lt
  have HBd := Lib.hid (hb.next hb0)
  have HP0 := Lib.hid (h.keepB hk0 hb hgb)
  have HK0 := Lib.hid hk0
  have hbox : At w0 w.heap.size 27 t.cs.toArray := by rw [hw0]; exact At.new _ _ _
  have HBox := Lib.hid hbox
  have HOff : Hid (w.heap.size ≠ b ∧ some w.heap.size ≠ bufOf w0 b) := Lib.hid (by
    have h1 := hb.off (Nat.le_refl w.heap.size)
    have e : bufOf w0 b = bufOf w b := bufOf_same (hb0.block b hb.lt)
    rw [e]; exact h1)
  have HI := Lib.hid ih
  have HW0 := Lib.hid hw0
  obtain ⟨c0, c5, c6, c7, c8⟩ := At.tr_cell hbox
  obtain ⟨c1, c2, c3, c4⟩ := At.tr_set hbox
  rw [hkd] at c0
  rw [hw0] at c0 c1 c2 c3 c4 c5 c6 c7 c8
  have HK := Lib.hid hkd
  have hsz : x.size + 4000 ≤ 1000000000 := by omega
  clear h hb hb0 hw0 hk0 ih hkd hbox hs
  go_enter Tryd.func12, Tryd.ntmps12
  go_wp2_with fail
  rw [← HW0.out]
  refine (bWriteByte b x 94 94 rfl _ HBd.out (by omega)).mono ?_
  rintro e w1 ⟨rfl, h1, hk1⟩
  have HB1 := Lib.hid h1
  have HK1 := Lib.hid (HK0.out.trans hk1)
  clear h1 hk1
  go_wp2_with fail
  go_end0
  refine ⟨rfl, ?_, HK1.out⟩
  rw [HV.out]
  have := HB1.out
  first
    | exact this
    | (simp only [app_app] at this ⊢
       exact this)

set_option maxRecDepth 100000 in
set_option maxHeartbeats 4000000 in
theorem pWrite_11 (b k : Nat) (hgb : 0 < b) (ih : Writes b k) (t : Tr) (x : ByteArray) (w : World) (h : Pre b w (k + 1) t) (hb : Bd w b x) (hs : x.size + (textS (k + 1) t).size + (4000 + 20 * (k + 1)) ≤ 1000000000) (hkd : t.kind = 11) :
    Calls Tryd.prog 12 #[.pointer (some ⟨b, 0, none⟩), .agg t.cs.toArray] w (Wrote b x (textS (k + 1) t) w) := by
  have HV := Lib.hid (text_11 (k := k) hkd)
  obtain ⟨w0, hw0⟩ : ∃ w0, w0 = w.alloc (.cells t.cs.toArray 27) := ⟨_, rfl⟩
  have hb0 : Below w.heap.size w w0 := by rw [hw0]; exact (Below.refl _ _).alloc (Nat.le_refl _) _
  have hk0 := KeepB.of hb0 hb.lt
  have HBd := Lib.hid (hb.next hb0)
  have HP0 := Lib.hid (h.keepB hk0 hb hgb)
  have HK0 := Lib.hid hk0
  have hbox : At w0 w.heap.size 27 t.cs.toArray := by rw [hw0]; exact At.new _ _ _
  have HBox := Lib.hid hbox
  have HOff : Hid (w.heap.size ≠ b ∧ some w.heap.size ≠ bufOf w0 b) := Lib.hid (by
    have h1 := hb.off (Nat.le_refl w.heap.size)
    have e : bufOf w0 b = bufOf w b := bufOf_same (hb0.block b hb.lt)
    rw [e]; exact h1)
  have HI := Lib.hid ih
  have HW0 := Lib.hid hw0
  obtain ⟨c0, c5, c6, c7, c8⟩ := At.tr_cell hbox
  obtain ⟨c1, c2, c3, c4⟩ := At.tr_set hbox
  rw [hkd] at c0
  rw [hw0] at c0 c1 c2 c3 c4 c5 c6 c7 c8
  have HK := Lib.hid hkd
  have hsz : x.size + 4000 ≤ 1000000000 := by omega
  clear h hb hb0 hw0 hk0 ih hkd hbox hs
  go_enter Tryd.func12, Tryd.ntmps12
  go_wp2_with fail
  rw [← HW0.out]
  refine (bWriteByte b x 36 36 rfl _ HBd.out (by omega)).mono ?_
  rintro e w1 ⟨rfl, h1, hk1⟩
  have HB1 := Lib.hid h1
  have HK1 := Lib.hid (HK0.out.trans hk1)
  clear h1 hk1
  go_wp2_with fail
  go_end0
  refine ⟨rfl, ?_, HK1.out⟩
  rw [HV.out]
  have := HB1.out
  first
    | exact this
    | (simp only [app_app] at this ⊢
       exact this)

set_option maxRecDepth 100000 in
set_option maxHeartbeats 4000000 in
theorem pWrite_3 (b k : Nat) (hgb : 0 < b) (ih : Writes b k) (t : Tr) (x : ByteArray) (w : World) (h : Pre b w (k + 1) t) (hb : Bd w b x) (hs : x.size + (textS (k + 1) t).size + (4000 + 20 * (k + 1)) ≤ 1000000000) (hkd : t.kind = 3) :
    Calls Tryd.prog 12 #[.pointer (some ⟨b, 0, none⟩), .agg t.cs.toArray] w (Wrote b x (textS (k + 1) t) w) := by
  have HV : Hid (textS (k + 1) t = rowT ⟨#[]⟩ (t.parts.map (textS k))) := Lib.hid (by
    rw [text_row (by omega), if_neg (by omega), app_no]
    unfold preT sepT
    rw [hkd, if_neg (by decide)]
    show noT ++ rowT ⟨#[]⟩ _ = _
    rw [no_app])
  obtain ⟨w0, hw0⟩ : ∃ w0, w0 = w.alloc (.cells t.cs.toArray 27) := ⟨_, rfl⟩
  have hb0 : Below w.heap.size w w0 := by rw [hw0]; exact (Below.refl _ _).alloc (Nat.le_refl _) _
  have hk0 := KeepB.of hb0 hb.lt
  have HBd := Lib.hid (hb.next hb0)
  have HP0 := Lib.hid (h.keepB hk0 hb hgb)
  have HK0 := Lib.hid hk0
  have hbox : At w0 w.heap.size 27 t.cs.toArray := by rw [hw0]; exact At.new _ _ _
  have HBox := Lib.hid hbox
  have HOff : Hid (w.heap.size ≠ b ∧ some w.heap.size ≠ bufOf w0 b) := Lib.hid (by
    have h1 := hb.off (Nat.le_refl w.heap.size)
    have e : bufOf w0 b = bufOf w b := bufOf_same (hb0.block b hb.lt)
    rw [e]; exact h1)
  have HI := Lib.hid ih
  have HW0 := Lib.hid hw0
  obtain ⟨c0, c5, c6, c7, c8⟩ := At.tr_cell hbox
  obtain ⟨c1, c2, c3, c4⟩ := At.tr_set hbox
  rw [hkd] at c0
  rw [hw0] at c0 c1 c2 c3 c4 c5 c6 c7 c8
  have HK := Lib.hid hkd
  have HSz : Hid (x.size + (rowT ⟨#[]⟩ (t.parts.map (textS k))).size + (⟨#[]⟩ : ByteArray).size + (4010 + 20 * k) ≤ 1000000000) := Lib.hid (by
    rw [HV.out] at hs
    have : (⟨#[]⟩ : ByteArray).size ≤ 1 := by decide
    omega)
  clear h hb hb0 hw0 hk0 ih hkd hbox hs
  go_enter Tryd.func12, Tryd.ntmps12
  go_wp2_with fail
  rw [← HW0.out]
  refine (pParts b k hgb HI.out ⟨#[]⟩ t x w0 HP0.out HBd.out (by have := HSz.out; omega)).mono ?_
  rintro e w1 ⟨rfl, h1, hk1⟩
  have HB1 := Lib.hid h1
  have HK1 := Lib.hid (HK0.out.trans hk1)
  clear h1 hk1
  go_wp2_with fail
  go_end0
  refine ⟨rfl, ?_, HK1.out⟩
  rw [HV.out]
  have := HB1.out
  first
    | exact this
    | (simp only [app_app] at this ⊢
       exact this)

set_option maxRecDepth 100000 in
set_option maxHeartbeats 4000000 in
theorem pWrite_4 (b k : Nat) (hgb : 0 < b) (ih : Writes b k) (t : Tr) (x : ByteArray) (w : World) (h : Pre b w (k + 1) t) (hb : Bd w b x) (hs : x.size + (textS (k + 1) t).size + (4000 + 20 * (k + 1)) ≤ 1000000000) (hkd : t.kind = 4) :
    Calls Tryd.prog 12 #[.pointer (some ⟨b, 0, none⟩), .agg t.cs.toArray] w (Wrote b x (textS (k + 1) t) w) := by
  have HV : Hid (textS (k + 1) t = rowT ⟨#[124]⟩ (t.parts.map (textS k))) := Lib.hid (by
    rw [text_row (by omega), if_neg (by omega), app_no]
    unfold preT sepT
    rw [hkd, if_neg (by decide)]
    show noT ++ rowT ⟨#[124]⟩ _ = _
    rw [no_app])
  obtain ⟨w0, hw0⟩ : ∃ w0, w0 = w.alloc (.cells t.cs.toArray 27) := ⟨_, rfl⟩
  have hb0 : Below w.heap.size w w0 := by rw [hw0]; exact (Below.refl _ _).alloc (Nat.le_refl _) _
  have hk0 := KeepB.of hb0 hb.lt
  have HBd := Lib.hid (hb.next hb0)
  have HP0 := Lib.hid (h.keepB hk0 hb hgb)
  have HK0 := Lib.hid hk0
  have hbox : At w0 w.heap.size 27 t.cs.toArray := by rw [hw0]; exact At.new _ _ _
  have HBox := Lib.hid hbox
  have HOff : Hid (w.heap.size ≠ b ∧ some w.heap.size ≠ bufOf w0 b) := Lib.hid (by
    have h1 := hb.off (Nat.le_refl w.heap.size)
    have e : bufOf w0 b = bufOf w b := bufOf_same (hb0.block b hb.lt)
    rw [e]; exact h1)
  have HI := Lib.hid ih
  have HW0 := Lib.hid hw0
  obtain ⟨c0, c5, c6, c7, c8⟩ := At.tr_cell hbox
  obtain ⟨c1, c2, c3, c4⟩ := At.tr_set hbox
  rw [hkd] at c0
  rw [hw0] at c0 c1 c2 c3 c4 c5 c6 c7 c8
  have HK := Lib.hid hkd
  have HSz : Hid (x.size + (rowT ⟨#[124]⟩ (t.parts.map (textS k))).size + (⟨#[124]⟩ : ByteArray).size + (4010 + 20 * k) ≤ 1000000000) := Lib.hid (by
    rw [HV.out] at hs
    have : (⟨#[124]⟩ : ByteArray).size ≤ 1 := by decide
    omega)
  clear h hb hb0 hw0 hk0 ih hkd hbox hs
  go_enter Tryd.func12, Tryd.ntmps12
  go_wp2_with fail
  rw [← HW0.out]
  refine (pParts b k hgb HI.out ⟨#[124]⟩ t x w0 HP0.out HBd.out (by have := HSz.out; omega)).mono ?_
  rintro e w1 ⟨rfl, h1, hk1⟩
  have HB1 := Lib.hid h1
  have HK1 := Lib.hid (HK0.out.trans hk1)
  clear h1 hk1
  go_wp2_with fail
  go_end0
  refine ⟨rfl, ?_, HK1.out⟩
  rw [HV.out]
  have := HB1.out
  first
    | exact this
    | (simp only [app_app] at this ⊢
       exact this)

set_option maxRecDepth 100000 in
set_option maxHeartbeats 4000000 in
theorem pWrite_5 (b k : Nat) (hgb : 0 < b) (ih : Writes b k) (t : Tr) (x : ByteArray) (w : World) (h : Pre b w (k + 1) t) (hb : Bd w b x) (hs : x.size + (textS (k + 1) t).size + (4000 + 20 * (k + 1)) ≤ 1000000000) (hkd : t.kind = 5) :
    Calls Tryd.prog 12 #[.pointer (some ⟨b, 0, none⟩), .agg t.cs.toArray] w (Wrote b x (textS (k + 1) t) w) := by
  have HV : Hid (textS (k + 1) t = rowT ⟨#[38]⟩ (t.parts.map (textS k))) := Lib.hid (by
    rw [text_row (by omega), if_neg (by omega), app_no]
    unfold preT sepT
    rw [hkd, if_neg (by decide)]
    show noT ++ rowT ⟨#[38]⟩ _ = _
    rw [no_app])
  obtain ⟨w0, hw0⟩ : ∃ w0, w0 = w.alloc (.cells t.cs.toArray 27) := ⟨_, rfl⟩
  have hb0 : Below w.heap.size w w0 := by rw [hw0]; exact (Below.refl _ _).alloc (Nat.le_refl _) _
  have hk0 := KeepB.of hb0 hb.lt
  have HBd := Lib.hid (hb.next hb0)
  have HP0 := Lib.hid (h.keepB hk0 hb hgb)
  have HK0 := Lib.hid hk0
  have hbox : At w0 w.heap.size 27 t.cs.toArray := by rw [hw0]; exact At.new _ _ _
  have HBox := Lib.hid hbox
  have HOff : Hid (w.heap.size ≠ b ∧ some w.heap.size ≠ bufOf w0 b) := Lib.hid (by
    have h1 := hb.off (Nat.le_refl w.heap.size)
    have e : bufOf w0 b = bufOf w b := bufOf_same (hb0.block b hb.lt)
    rw [e]; exact h1)
  have HI := Lib.hid ih
  have HW0 := Lib.hid hw0
  obtain ⟨c0, c5, c6, c7, c8⟩ := At.tr_cell hbox
  obtain ⟨c1, c2, c3, c4⟩ := At.tr_set hbox
  rw [hkd] at c0
  rw [hw0] at c0 c1 c2 c3 c4 c5 c6 c7 c8
  have HK := Lib.hid hkd
  have HSz : Hid (x.size + (rowT ⟨#[38]⟩ (t.parts.map (textS k))).size + (⟨#[38]⟩ : ByteArray).size + (4010 + 20 * k) ≤ 1000000000) := Lib.hid (by
    rw [HV.out] at hs
    have : (⟨#[38]⟩ : ByteArray).size ≤ 1 := by decide
    omega)
  clear h hb hb0 hw0 hk0 ih hkd hbox hs
  go_enter Tryd.func12, Tryd.ntmps12
  go_wp2_with fail
  rw [← HW0.out]
  refine (pParts b k hgb HI.out ⟨#[38]⟩ t x w0 HP0.out HBd.out (by have := HSz.out; omega)).mono ?_
  rintro e w1 ⟨rfl, h1, hk1⟩
  have HB1 := Lib.hid h1
  have HK1 := Lib.hid (HK0.out.trans hk1)
  clear h1 hk1
  go_wp2_with fail
  go_end0
  refine ⟨rfl, ?_, HK1.out⟩
  rw [HV.out]
  have := HB1.out
  first
    | exact this
    | (simp only [app_app] at this ⊢
       exact this)

set_option maxRecDepth 100000 in
set_option maxHeartbeats 4000000 in
theorem pWrite_6 (b k : Nat) (hgb : 0 < b) (ih : Writes b k) (t : Tr) (x : ByteArray) (w : World) (h : Pre b w (k + 1) t) (hb : Bd w b x) (hs : x.size + (textS (k + 1) t).size + (4000 + 20 * (k + 1)) ≤ 1000000000) (hkd : t.kind = 6) :
    Calls Tryd.prog 12 #[.pointer (some ⟨b, 0, none⟩), .agg t.cs.toArray] w (Wrote b x (textS (k + 1) t) w) := by
  obtain ⟨w0, hw0⟩ : ∃ w0, w0 = w.alloc (.cells t.cs.toArray 27) := ⟨_, rfl⟩
  have hb0 : Below w.heap.size w w0 := by rw [hw0]; exact (Below.refl _ _).alloc (Nat.le_refl _) _
  have hk0 := KeepB.of hb0 hb.lt
  have HBd := Lib.hid (hb.next hb0)
  have HP0 := Lib.hid (h.keepB hk0 hb hgb)
  have HK0 := Lib.hid hk0
  have hbox : At w0 w.heap.size 27 t.cs.toArray := by rw [hw0]; exact At.new _ _ _
  have HBox := Lib.hid hbox
  have HOff : Hid (w.heap.size ≠ b ∧ some w.heap.size ≠ bufOf w0 b) := Lib.hid (by
    have h1 := hb.off (Nat.le_refl w.heap.size)
    have e : bufOf w0 b = bufOf w b := bufOf_same (hb0.block b hb.lt)
    rw [e]; exact h1)
  have HI := Lib.hid ih
  have HW0 := Lib.hid hw0
  obtain ⟨c0, c5, c6, c7, c8⟩ := At.tr_cell hbox
  obtain ⟨c1, c2, c3, c4⟩ := At.tr_set hbox
  rw [hkd] at c0
  rw [hw0] at c0 c1 c2 c3 c4 c5 c6 c7 c8
  have HK := Lib.hid hkd
  have hl : t.parts.length = 1 := h.wrt.2.1 (by omega)
  have hl0 : 0 < t.parts.length := by omega
  have hn := h.lies.2.1.1
  obtain ⟨g, off, ha, hg, hr⟩ := h.lies.2.2.1 (by rw [hn]; omega)
  have HRg := Lib.hid (range_below (hr 0 hl0) hg (Nat.le_refl _) hb0)
  rw [Nat.zero_mul, Nat.add_zero] at HRg
  obtain ⟨p, hp⟩ : ∃ p, t.parts[0] = p := ⟨_, rfl⟩
  have hpart : Pre b w k p := ⟨by rw [← hp]; exact h.lies.2.2.2 0 hl0, by rw [← hp]; exact h.off.part (List.getElem_mem hl0), by rw [← hp]; exact h.wrt.2.2.2 _ (List.getElem_mem hl0), h.tab⟩
  have HPt := Lib.hid (hpart.keepB hk0 hb hgb)
  rw [hp] at HRg
  rw [hn, hl, ha] at c5
  have hmap : t.parts.map (textS k) = [textS k p] := by
    obtain ⟨a, e⟩ : ∃ a, t.parts = [a] := List.length_eq_one_iff.1 hl
    simp only [e, List.getElem_cons_zero] at hp
    rw [e, hp]; rfl
  have HV : Hid (textS (k + 1) t = preT 6 ++ brkT (textS k p)) := Lib.hid (by
    rw [text_row (by omega), hkd, hmap, rowT_one]
    rw [if_neg (by decide), app_no])
  have HSz : Hid (x.size + (⟨#[126, 40]⟩ : ByteArray).size + (textS k p).size + (4010 + 20 * k) ≤ 1000000000) := Lib.hid (by
    rw [HV.out] at hs
    have : (⟨#[126, 40]⟩ : ByteArray).size ≤ 2 := by decide
    simp only [size_app, brkT_size] at hs
    omega)
  clear h hb hb0 hw0 hk0 ih hkd hbox hs hl hl0 hn ha hg hr hp hpart hmap
  have HRg0 := HRg
  rw [HW0.out] at HRg0
  go_enter Tryd.func12, Tryd.ntmps12
  go_wp2_with (first
  | (with_reducible show wpList _ _ _ ({ dst := _, op := .load 27 _, type := _, pos := _, after := _, guard := _ } :: _) _ _
     refine wpList_load_mid rfl 27 _ rfl g off rfl p.cs _ HRg0.out Tryd.underlying27 rfl (by rw [Tr.cs_length]; kernel_rfl) ?_)
  | fail)
  rw [← HW0.out]
  refine (pWithin b k hgb HI.out ⟨#[126, 40]⟩ p x w0 HPt.out HBd.out (by have := HSz.out; omega)).mono ?_
  rintro e w1 ⟨rfl, h1, hk1⟩
  have HB1 := Lib.hid h1
  have HK1 := Lib.hid (HK0.out.trans hk1)
  clear h1 hk1
  go_wp2_with fail
  go_end0
  refine ⟨rfl, ?_, HK1.out⟩
  rw [HV.out]
  unfold preT brkT
  rw [if_pos rfl]
  have e : (⟨#[126]⟩ : ByteArray) ++ (⟨#[40]⟩ ++ textS k p ++ ⟨#[41]⟩) = ⟨#[126, 40]⟩ ++ textS k p ++ ⟨#[41]⟩ := by rw [← app_app, ← app_app]; rfl
  rw [e]
  have := HB1.out
  first
    | exact this
    | (simp only [app_app] at this ⊢
       exact this)

set_option maxRecDepth 100000 in
set_option maxHeartbeats 4000000 in
theorem pWrite_7 (b k : Nat) (hgb : 0 < b) (ih : Writes b k) (t : Tr) (x : ByteArray) (w : World) (h : Pre b w (k + 1) t) (hb : Bd w b x) (hs : x.size + (textS (k + 1) t).size + (4000 + 20 * (k + 1)) ≤ 1000000000) (hkd : t.kind = 7) :
    Calls Tryd.prog 12 #[.pointer (some ⟨b, 0, none⟩), .agg t.cs.toArray] w (Wrote b x (textS (k + 1) t) w) := by
  obtain ⟨w0, hw0⟩ : ∃ w0, w0 = w.alloc (.cells t.cs.toArray 27) := ⟨_, rfl⟩
  have hb0 : Below w.heap.size w w0 := by rw [hw0]; exact (Below.refl _ _).alloc (Nat.le_refl _) _
  have hk0 := KeepB.of hb0 hb.lt
  have HBd := Lib.hid (hb.next hb0)
  have HP0 := Lib.hid (h.keepB hk0 hb hgb)
  have HK0 := Lib.hid hk0
  have hbox : At w0 w.heap.size 27 t.cs.toArray := by rw [hw0]; exact At.new _ _ _
  have HBox := Lib.hid hbox
  have HOff : Hid (w.heap.size ≠ b ∧ some w.heap.size ≠ bufOf w0 b) := Lib.hid (by
    have h1 := hb.off (Nat.le_refl w.heap.size)
    have e : bufOf w0 b = bufOf w b := bufOf_same (hb0.block b hb.lt)
    rw [e]; exact h1)
  have HI := Lib.hid ih
  have HW0 := Lib.hid hw0
  obtain ⟨c0, c5, c6, c7, c8⟩ := At.tr_cell hbox
  obtain ⟨c1, c2, c3, c4⟩ := At.tr_set hbox
  rw [hkd] at c0
  rw [hw0] at c0 c1 c2 c3 c4 c5 c6 c7 c8
  have HK := Lib.hid hkd
  have hl : t.parts.length = 1 := h.wrt.2.1 (by omega)
  have hl0 : 0 < t.parts.length := by omega
  have hn := h.lies.2.1.1
  obtain ⟨g, off, ha, hg, hr⟩ := h.lies.2.2.1 (by rw [hn]; omega)
  have HRg := Lib.hid (range_below (hr 0 hl0) hg (Nat.le_refl _) hb0)
  rw [Nat.zero_mul, Nat.add_zero] at HRg
  obtain ⟨p, hp⟩ : ∃ p, t.parts[0] = p := ⟨_, rfl⟩
  have hpart : Pre b w k p := ⟨by rw [← hp]; exact h.lies.2.2.2 0 hl0, by rw [← hp]; exact h.off.part (List.getElem_mem hl0), by rw [← hp]; exact h.wrt.2.2.2 _ (List.getElem_mem hl0), h.tab⟩
  have HPt := Lib.hid (hpart.keepB hk0 hb hgb)
  rw [hp] at HRg
  rw [hn, hl, ha] at c5
  have hmap : t.parts.map (textS k) = [textS k p] := by
    obtain ⟨a, e⟩ : ∃ a, t.parts = [a] := List.length_eq_one_iff.1 hl
    simp only [e, List.getElem_cons_zero] at hp
    rw [e, hp]; rfl
  have HV : Hid (textS (k + 1) t = brkT (textS k p) ++ boundsT t.lo t.hi) := Lib.hid (by
    rw [text_row (by omega), hkd, hmap, rowT_one]
    rw [if_pos rfl]; show noT ++ _ ++ _ = _; rw [no_app])
  have HSz : Hid (x.size + (⟨#[40]⟩ : ByteArray).size + (textS k p).size + (4010 + 20 * k) ≤ 1000000000) := Lib.hid (by
    rw [HV.out] at hs
    have : (⟨#[40]⟩ : ByteArray).size ≤ 2 := by decide
    simp only [size_app, brkT_size] at hs
    omega)
  have HTm : Hid (timesF t) := Lib.hid (h.wrt.2.2.1 hkd)
  have HBs : Hid (x.size + (textS k p).size + 4000 ≤ 1000000000) := Lib.hid (by
    rw [HV.out] at hs
    simp only [size_app, brkT_size] at hs
    have : 4 ≤ (boundsT t.lo t.hi).size := by
      unfold boundsT
      simp only [size_app]
      have e1 : (ByteArray.mk #[123]).size = 1 := rfl
      have e2 : (ByteArray.mk #[44]).size = 1 := rfl
      have e3 : (ByteArray.mk #[125]).size = 1 := rfl
      have e4 := (digT_some t.lo.toNat)
      omega
    omega)
  clear h hb hb0 hw0 hk0 ih hkd hbox hs hl hl0 hn ha hg hr hp hpart hmap
  have HRg0 := HRg
  rw [HW0.out] at HRg0
  go_enter Tryd.func12, Tryd.ntmps12
  go_wp2_with (first
  | (with_reducible show wpList _ _ _ ({ dst := _, op := .load 27 _, type := _, pos := _, after := _, guard := _ } :: _) _ _
     refine wpList_load_mid rfl 27 _ rfl g off rfl p.cs _ HRg0.out Tryd.underlying27 rfl (by rw [Tr.cs_length]; kernel_rfl) ?_)
  | fail)
  rw [← HW0.out]
  refine (pWithin b k hgb HI.out ⟨#[40]⟩ p x w0 HPt.out HBd.out (by have := HSz.out; omega)).mono ?_
  rintro e w1 ⟨rfl, h1, hk1⟩
  have HB1 := Lib.hid h1
  have HK1 := Lib.hid (HK0.out.trans hk1)
  have hbox1 := At.keepB HBox.out hk1 HOff.out.1 HOff.out.2
  obtain ⟨d0, d5, d6, d7, d8⟩ := At.tr_cell hbox1
  clear h1 hk1 hbox1 c0 c1 c2 c3 c4 c5 c6 c7 c8
  go_wp2_with fail
  refine (pBounds b t.lo t.hi HTm.out _ w1 HB1.out (by
    have := HBs.out
    simp only [size_app]
    have e1 : (ByteArray.mk #[40]).size = 1 := rfl
    have e2 : (ByteArray.mk #[41]).size = 1 := rfl
    omega)).mono ?_
  rintro e w2 ⟨rfl, h2, hk2⟩
  have HB2 := Lib.hid h2
  have HK2 := Lib.hid (HK1.out.trans hk2)
  clear h2 hk2
  go_wp2_with fail
  go_end0
  refine ⟨rfl, ?_, HK2.out⟩
  rw [HV.out]
  unfold brkT
  have := HB2.out
  first
    | exact this
    | (simp only [app_app] at this ⊢
       exact this)

end Go.Proofs.YtibmcdgnponpmaaDoor
