/- bolterlaw06.PrintWrites: the law's walk. -/
import Derived.Test.YtibmcdgnponpmaaDoorPrintH
import Derived.Test.YtibmcdgnponpmaaDoorRefText
import Derived.Test.YtibmcdgnponpmaaDoorRefFormed
import Derived.Test.YtibmcdgnponpmaaDoorFewMass
namespace Go.Proofs.YtibmcdgnponpmaaDoor
open Go.RowKit
set_option linter.unusedSimpArgs false
set_option linter.unusedVariables false

theorem sum_le_of {α : Type} (f g : α → Nat) : ∀ (l : List α), (∀ p ∈ l, f p ≤ g p) → (l.map f).sum ≤ (l.map g).sum
  | [], _ => by simp
  | a :: l, h => by
    have h1 := h a List.mem_cons_self
    have h2 := sum_le_of f g l (fun p hp => h p (List.mem_cons_of_mem _ hp))
    rw [List.map_cons, List.map_cons, List.sum_cons, List.sum_cons]; omega
theorem mass_lv : ∀ (k : Nat) (t : Tr), Tr.Lv k t → ∀ m, massS m t ≤ massS k t
  | 0, _, h, _ => h.elim
  | k + 1, t, h, m => by
    cases m with
    | zero => exact mass_pos _ _
    | succ m =>
      show 1 + (t.parts.map (massS m)).sum ≤ 1 + (t.parts.map (massS k)).sum
      have := sum_le_of (massS m) (massS k) t.parts (fun p hp => mass_lv k p (h p hp) m)
      omega
theorem noT_nil : noT.toList.isEmpty = true := by decide +kernel
theorem leaf10_formed : isFormed 1 (leafP 10) = true := by decide +kernel
theorem leaf10_text : textS (1 + 1) (plainS 1 (leafP 10)) = ⟨#[94]⟩ := by
  rw [plain_node (by decide) (by decide), text_10 rfl]
theorem leaf10_shown : shown (textS (1 + 1) (plainS 1 (leafP 10))) = .tuple #[.string ⟨#[94]⟩, .int .i64 0] := by
  rw [leaf10_text]; rfl

set_option maxRecDepth 100000 in
set_option maxHeartbeats 4000000 in
theorem lawAwake6 (w : World) (hT : Tab w) : Calls Tryd.prog 4 #[] w fun e w' => e = .returned (.bool true) ∧ Below w.heap.size w w' := by
  have HP := Lib.hid (pPrint 1 (leafP 10) w (leafP_in w 0 (by unfold I64; omega)) leaf10_formed (by omega) (by decide) hT)
  have HSh := Lib.hid leaf10_shown
  clear hT
  go_enter Tryd.func4, Tryd.ntmps4
  go_wp2_with fail
  refine (HP.out).mono ?_
  rintro e w1 ⟨rfl, hb⟩
  rw [HSh.out]
  have HB := Lib.hid hb
  clear hb
  go_wp2_with fail
  go_ret
  exact ⟨rfl, HB.out⟩

set_option maxRecDepth 100000 in
set_option maxHeartbeats 4000000 in
theorem lawPrints_many (k : Nat) (t : Tr) (w : World) (h : Tr.In w k t) (hT : Tab w) (hc : ¬ nodesS k 60 t ≤ 2000) :
    Calls Tryd.prog 3 #[.agg t.cs.toArray] w fun e w' => e = .returned (.bool true) ∧ Below w.heap.size w w' := by
  have HI := Lib.hid h
  have HT := Lib.hid hT
  have HX0 : Hid (At (w.alloc (.cells t.cs.toArray 27)) w.heap.size 27 t.cs.toArray) := Lib.hid (At.new _ _ _)
  have HB0 : Hid (Below w.heap.size w (w.alloc (.cells t.cs.toArray 27))) := Lib.hid ((Below.refl _ _).alloc (Nat.le_refl _) _)
  have HD : Hid (decide (nodesS k 60 t ≤ 2000) = false) := Lib.hid (decide_eq_false hc)
  clear h hT hc
  go_enter Tryd.func3, Tryd.ntmps3
  go_wp2_with fail
  refine (lawAwake6 _ (HT.out.below HB0.out)).mono ?_
  rintro e w1 ⟨rfl, hb1⟩
  have HX1 := Lib.hid (HX0.out.below hb1 HX0.out.lt)
  have HB1 := Lib.hid (HB0.out.trans (hb1.mono HB0.out.size))
  clear hb1
  go_wp2_with (first
  | (with_reducible show wpList _ _ _ ({ dst := _, op := .load 27 _, type := _, pos := _, after := _, guard := _ } :: _) _ _
     first
     | refine wpList_load_row rfl 27 _ rfl w.heap.size rfl 27 t.cs.toArray (0, 0) _ HX1.out Tryd.underlying27 rfl (by kernel_rfl) ?_
     | refine wpList_load_row_want (by rfl) 27 _ rfl w.heap.size rfl 27 t.cs.toArray (0, 0) _ HX1.out Tryd.underlying27 rfl (by kernel_rfl) ?_)
  | fail)
  refine (lawFew k 60 t _ (by omega) (by omega) (HI.out.next HB1.out)).mono ?_
  rintro e w2 ⟨rfl, hb2⟩
  rw [HD.out]
  have HX2 := Lib.hid (HX1.out.below hb2 HX1.out.lt)
  have HB2 := Lib.hid (HB1.out.trans (hb2.mono HB1.out.size))
  clear hb2
  go_wp2_with fail
  refine (lawAwake6 _ (HT.out.below HB2.out)).mono ?_
  rintro e w3 ⟨rfl, hb3⟩
  have HX3 := Lib.hid (HX2.out.below hb3 HX2.out.lt)
  have HB3 := Lib.hid (HB2.out.trans (hb3.mono HB2.out.size))
  clear hb3
  go_wp2_with fail
  go_ret
  exact ⟨rfl, HB3.out⟩

set_option maxRecDepth 100000 in
set_option maxHeartbeats 4000000 in
theorem lawPrints_no (k : Nat) (t : Tr) (w : World) (h : Tr.In w k t) (hT : Tab w) (hc : nodesS k 60 t ≤ 2000) (hf : isFormed k t = false) :
    Calls Tryd.prog 3 #[.agg t.cs.toArray] w fun e w' => e = .returned (.bool true) ∧ Below w.heap.size w w' := by
  have HI := Lib.hid h
  have HT := Lib.hid hT
  have HX0 : Hid (At (w.alloc (.cells t.cs.toArray 27)) w.heap.size 27 t.cs.toArray) := Lib.hid (At.new _ _ _)
  have HB0 : Hid (Below w.heap.size w (w.alloc (.cells t.cs.toArray 27))) := Lib.hid ((Below.refl _ _).alloc (Nat.le_refl _) _)
  have HD : Hid (decide (nodesS k 60 t ≤ 2000) = true) := Lib.hid (decide_eq_true hc)
  have HF := Lib.hid hf
  clear h hT hc hf
  go_enter Tryd.func3, Tryd.ntmps3
  go_wp2_with fail
  refine (lawAwake6 _ (HT.out.below HB0.out)).mono ?_
  rintro e w1 ⟨rfl, hb1⟩
  have HX1 := Lib.hid (HX0.out.below hb1 HX0.out.lt)
  have HB1 := Lib.hid (HB0.out.trans (hb1.mono HB0.out.size))
  clear hb1
  go_wp2_with (first
  | (with_reducible show wpList _ _ _ ({ dst := _, op := .load 27 _, type := _, pos := _, after := _, guard := _ } :: _) _ _
     first
     | refine wpList_load_row rfl 27 _ rfl w.heap.size rfl 27 t.cs.toArray (0, 0) _ HX1.out Tryd.underlying27 rfl (by kernel_rfl) ?_
     | refine wpList_load_row_want (by rfl) 27 _ rfl w.heap.size rfl 27 t.cs.toArray (0, 0) _ HX1.out Tryd.underlying27 rfl (by kernel_rfl) ?_)
  | fail)
  refine (lawFew k 60 t _ (by omega) (by omega) (HI.out.next HB1.out)).mono ?_
  rintro e w2 ⟨rfl, hb2⟩
  rw [HD.out]
  have HX2 := Lib.hid (HX1.out.below hb2 HX1.out.lt)
  have HB2 := Lib.hid (HB1.out.trans (hb2.mono HB1.out.size))
  clear hb2
  go_wp2_with (first
  | (with_reducible show wpList _ _ _ ({ dst := _, op := .load 27 _, type := _, pos := _, after := _, guard := _ } :: _) _ _
     first
     | refine wpList_load_row rfl 27 _ rfl w.heap.size rfl 27 t.cs.toArray (0, 0) _ HX2.out Tryd.underlying27 rfl (by kernel_rfl) ?_
     | refine wpList_load_row_want (by rfl) 27 _ rfl w.heap.size rfl 27 t.cs.toArray (0, 0) _ HX2.out Tryd.underlying27 rfl (by kernel_rfl) ?_)
  | fail)
  refine (pPrint_no k t _ (HI.out.next HB2.out) HF.out).mono ?_
  rintro e w3 ⟨rfl, hb3⟩
  have HX3 := Lib.hid (HX2.out.below hb3 HX2.out.lt)
  have HB3 := Lib.hid (HB2.out.trans (hb3.mono HB2.out.size))
  clear hb3
  go_wp2_with (first
  | (with_reducible show wpList _ _ _ ({ dst := _, op := .load 27 _, type := _, pos := _, after := _, guard := _ } :: _) _ _
     first
     | refine wpList_load_row rfl 27 _ rfl w.heap.size rfl 27 t.cs.toArray (0, 0) _ HX3.out Tryd.underlying27 rfl (by kernel_rfl) ?_
     | refine wpList_load_row_want (by rfl) 27 _ rfl w.heap.size rfl 27 t.cs.toArray (0, 0) _ HX3.out Tryd.underlying27 rfl (by kernel_rfl) ?_)
  | fail)
  refine (refFormed k t _ (HI.out.next HB3.out)).mono ?_
  rintro e w4 ⟨rfl, hb4⟩
  rw [HF.out]
  have HX4 := Lib.hid (HX3.out.below hb4 HX3.out.lt)
  have HB4 := Lib.hid (HB3.out.trans (hb4.mono HB3.out.size))
  clear hb4
  go_wp2_with fail
  go_ret
  exact ⟨ret_bool noT_nil, HB4.out⟩

set_option maxRecDepth 100000 in
set_option maxHeartbeats 4000000 in
theorem lawPrints_long (k : Nat) (t : Tr) (w : World) (h : Tr.In w k t) (hT : Tab w) (hc : nodesS k 60 t ≤ 2000) (hf : isFormed k t = true) (hlen : 10000 < (textS (40 + 1) (plainS 40 t)).size) :
    Calls Tryd.prog 3 #[.agg t.cs.toArray] w fun e w' => e = .returned (.bool true) ∧ Below w.heap.size w w' := by
  have HI := Lib.hid h
  have HT := Lib.hid hT
  have HX0 : Hid (At (w.alloc (.cells t.cs.toArray 27)) w.heap.size 27 t.cs.toArray) := Lib.hid (At.new _ _ _)
  have HB0 : Hid (Below w.heap.size w (w.alloc (.cells t.cs.toArray 27))) := Lib.hid ((Below.refl _ _).alloc (Nat.le_refl _) _)
  have HD : Hid (decide (nodesS k 60 t ≤ 2000) = true) := Lib.hid (decide_eq_true hc)
  have hl := h.lv
  have h40 : Tr.In w 40 t := deep_in k 40 t h (isFormed_deep hf)
  have hf40 : isFormed 40 t = true := FormedT.at ⟨k, hl, hf⟩ h40.lv
  have hm : massS 40 t ≤ 2000 := by
    have h1 := few_mass k 60 t hl hc
    have h2 := mass_lv k t hl 40
    omega
  have HI4 := Lib.hid h40
  have HF4 := Lib.hid hf40
  have HM := Lib.hid hm
  have HSl := Lib.hid (isFormed_slim h40.lv hf40)
  have hfs : formedS 40 t = true := by
    have := hf40
    unfold isFormed at this
    rw [Bool.and_eq_true, Bool.and_eq_true] at this
    exact this.2.1
  have HWr := Lib.hid (wrt_plain 40 t hfs 41)
  obtain ⟨X, hX⟩ : ∃ X, textS (40 + 1) (plainS 40 t) = X := ⟨_, rfl⟩
  have HXt := Lib.hid hX
  rw [hX] at hlen
  have HSh : Hid (shown X = .tuple #[.string noT, .int .i64 3]) := Lib.hid (by unfold shown; rw [if_pos hlen])
  have HLn := Lib.hid hlen
  clear h hT hc hf hl h40 hf40 hm hfs hX hlen
  go_enter Tryd.func3, Tryd.ntmps3
  go_wp2_with fail
  refine (lawAwake6 _ (HT.out.below HB0.out)).mono ?_
  rintro e w1 ⟨rfl, hb1⟩
  have HX1 := Lib.hid (HX0.out.below hb1 HX0.out.lt)
  have HB1 := Lib.hid (HB0.out.trans (hb1.mono HB0.out.size))
  clear hb1
  go_wp2_with (first
  | (with_reducible show wpList _ _ _ ({ dst := _, op := .load 27 _, type := _, pos := _, after := _, guard := _ } :: _) _ _
     first
     | refine wpList_load_row rfl 27 _ rfl w.heap.size rfl 27 t.cs.toArray (0, 0) _ HX1.out Tryd.underlying27 rfl (by kernel_rfl) ?_
     | refine wpList_load_row_want (by rfl) 27 _ rfl w.heap.size rfl 27 t.cs.toArray (0, 0) _ HX1.out Tryd.underlying27 rfl (by kernel_rfl) ?_)
  | fail)
  refine (lawFew k 60 t _ (by omega) (by omega) (HI.out.next HB1.out)).mono ?_
  rintro e w2 ⟨rfl, hb2⟩
  rw [HD.out]
  have HX2 := Lib.hid (HX1.out.below hb2 HX1.out.lt)
  have HB2 := Lib.hid (HB1.out.trans (hb2.mono HB1.out.size))
  clear hb2
  go_wp2_with (first
  | (with_reducible show wpList _ _ _ ({ dst := _, op := .load 27 _, type := _, pos := _, after := _, guard := _ } :: _) _ _
     first
     | refine wpList_load_row rfl 27 _ rfl w.heap.size rfl 27 t.cs.toArray (0, 0) _ HX2.out Tryd.underlying27 rfl (by kernel_rfl) ?_
     | refine wpList_load_row_want (by rfl) 27 _ rfl w.heap.size rfl 27 t.cs.toArray (0, 0) _ HX2.out Tryd.underlying27 rfl (by kernel_rfl) ?_)
  | fail)
  refine (pPrint 40 t _ (HI4.out.next HB2.out) HF4.out (by omega) HM.out (HT.out.below HB2.out)).mono ?_
  rintro e w3 ⟨rfl, hb3⟩
  rw [HXt.out, HSh.out]
  have HX3 := Lib.hid (HX2.out.below hb3 HX2.out.lt)
  have HB3 := Lib.hid (HB2.out.trans (hb3.mono HB2.out.size))
  clear hb3
  go_wp2_with (first
  | (with_reducible show wpList _ _ _ ({ dst := _, op := .load 27 _, type := _, pos := _, after := _, guard := _ } :: _) _ _
     first
     | refine wpList_load_row rfl 27 _ rfl w.heap.size rfl 27 t.cs.toArray (0, 0) _ HX3.out Tryd.underlying27 rfl (by kernel_rfl) ?_
     | refine wpList_load_row_want (by rfl) 27 _ rfl w.heap.size rfl 27 t.cs.toArray (0, 0) _ HX3.out Tryd.underlying27 rfl (by kernel_rfl) ?_)
  | fail)
  refine (refFormed 40 t _ (HI4.out.next HB3.out)).mono ?_
  rintro e w4 ⟨rfl, hb4⟩
  rw [HF4.out]
  have HX4 := Lib.hid (HX3.out.below hb4 HX3.out.lt)
  have HB4 := Lib.hid (HB3.out.trans (hb4.mono HB3.out.size))
  clear hb4
  go_wp2_with (first
  | (with_reducible show wpList _ _ _ ({ dst := _, op := .load 27 _, type := _, pos := _, after := _, guard := _ } :: _) _ _
     first
     | refine wpList_load_row rfl 27 _ rfl w.heap.size rfl 27 t.cs.toArray (0, 0) _ HX4.out Tryd.underlying27 rfl (by kernel_rfl) ?_
     | refine wpList_load_row_want (by rfl) 27 _ rfl w.heap.size rfl 27 t.cs.toArray (0, 0) _ HX4.out Tryd.underlying27 rfl (by kernel_rfl) ?_)
  | fail)
  refine (refPlain 40 t _ (HI4.out.next HB4.out) HSl.out).mono ?_
  rintro e w5 ⟨t3, rfl, hi3, hf3, hs3, hb5⟩
  have HB5 := Lib.hid (HB4.out.trans (hb5.mono HB4.out.size))
  have HI3 := Lib.hid hi3
  have HWr3 : Hid (wrtS 41 t3) := Lib.hid (wrtP_strip 41 t3 (by rw [hs3]; exact HWr.out))
  have HXt3 : Hid (textS 41 t3 = X) := Lib.hid (by rw [← textP_strip 41 t3, hs3]; exact HXt.out)
  clear hb5 hi3 hf3 hs3
  go_wp2_with fail
  refine (refText 41 (by omega) t3 w5 HI3.out HWr3.out).mono ?_
  rintro e w6 ⟨x, rfl, hx, hxs, hb6⟩
  have HB6 := Lib.hid (HB5.out.trans (hb6.mono HB5.out.size))
  have hx2 : 10000 < x.size := by
    rcases hx with hx | hx
    · rw [hx, HXt3.out]; exact HLn.out
    · omega
  have d1 : decide ((10000 : Int) < (x.size : Int)) = true := decide_eq_true (by omega)
  clear hb6 hx hxs hx2
  go_wp2_with fail
  go_ret
  exact ⟨ret_bool noT_nil, HB6.out⟩

set_option maxRecDepth 100000 in
set_option maxHeartbeats 4000000 in
theorem lawPrints_short (k : Nat) (t : Tr) (w : World) (h : Tr.In w k t) (hT : Tab w) (hc : nodesS k 60 t ≤ 2000) (hf : isFormed k t = true) (hlen : ¬ 10000 < (textS (40 + 1) (plainS 40 t)).size) :
    Calls Tryd.prog 3 #[.agg t.cs.toArray] w fun e w' => e = .returned (.bool true) ∧ Below w.heap.size w w' := by
  have HI := Lib.hid h
  have HT := Lib.hid hT
  have HX0 : Hid (At (w.alloc (.cells t.cs.toArray 27)) w.heap.size 27 t.cs.toArray) := Lib.hid (At.new _ _ _)
  have HB0 : Hid (Below w.heap.size w (w.alloc (.cells t.cs.toArray 27))) := Lib.hid ((Below.refl _ _).alloc (Nat.le_refl _) _)
  have HD : Hid (decide (nodesS k 60 t ≤ 2000) = true) := Lib.hid (decide_eq_true hc)
  have hl := h.lv
  have h40 : Tr.In w 40 t := deep_in k 40 t h (isFormed_deep hf)
  have hf40 : isFormed 40 t = true := FormedT.at ⟨k, hl, hf⟩ h40.lv
  have hm : massS 40 t ≤ 2000 := by
    have h1 := few_mass k 60 t hl hc
    have h2 := mass_lv k t hl 40
    omega
  have HI4 := Lib.hid h40
  have HF4 := Lib.hid hf40
  have HM := Lib.hid hm
  have HSl := Lib.hid (isFormed_slim h40.lv hf40)
  have hfs : formedS 40 t = true := by
    have := hf40
    unfold isFormed at this
    rw [Bool.and_eq_true, Bool.and_eq_true] at this
    exact this.2.1
  have HWr := Lib.hid (wrt_plain 40 t hfs 41)
  obtain ⟨X, hX⟩ : ∃ X, textS (40 + 1) (plainS 40 t) = X := ⟨_, rfl⟩
  have HXt := Lib.hid hX
  rw [hX] at hlen
  have HSh : Hid (shown X = .tuple #[.string X, .int .i64 0]) := Lib.hid (by unfold shown; rw [if_neg hlen])
  have HLn := Lib.hid hlen
  clear h hT hc hf hl h40 hf40 hm hfs hX hlen
  go_enter Tryd.func3, Tryd.ntmps3
  go_wp2_with fail
  refine (lawAwake6 _ (HT.out.below HB0.out)).mono ?_
  rintro e w1 ⟨rfl, hb1⟩
  have HX1 := Lib.hid (HX0.out.below hb1 HX0.out.lt)
  have HB1 := Lib.hid (HB0.out.trans (hb1.mono HB0.out.size))
  clear hb1
  go_wp2_with (first
  | (with_reducible show wpList _ _ _ ({ dst := _, op := .load 27 _, type := _, pos := _, after := _, guard := _ } :: _) _ _
     first
     | refine wpList_load_row rfl 27 _ rfl w.heap.size rfl 27 t.cs.toArray (0, 0) _ HX1.out Tryd.underlying27 rfl (by kernel_rfl) ?_
     | refine wpList_load_row_want (by rfl) 27 _ rfl w.heap.size rfl 27 t.cs.toArray (0, 0) _ HX1.out Tryd.underlying27 rfl (by kernel_rfl) ?_)
  | fail)
  refine (lawFew k 60 t _ (by omega) (by omega) (HI.out.next HB1.out)).mono ?_
  rintro e w2 ⟨rfl, hb2⟩
  rw [HD.out]
  have HX2 := Lib.hid (HX1.out.below hb2 HX1.out.lt)
  have HB2 := Lib.hid (HB1.out.trans (hb2.mono HB1.out.size))
  clear hb2
  go_wp2_with (first
  | (with_reducible show wpList _ _ _ ({ dst := _, op := .load 27 _, type := _, pos := _, after := _, guard := _ } :: _) _ _
     first
     | refine wpList_load_row rfl 27 _ rfl w.heap.size rfl 27 t.cs.toArray (0, 0) _ HX2.out Tryd.underlying27 rfl (by kernel_rfl) ?_
     | refine wpList_load_row_want (by rfl) 27 _ rfl w.heap.size rfl 27 t.cs.toArray (0, 0) _ HX2.out Tryd.underlying27 rfl (by kernel_rfl) ?_)
  | fail)
  refine (pPrint 40 t _ (HI4.out.next HB2.out) HF4.out (by omega) HM.out (HT.out.below HB2.out)).mono ?_
  rintro e w3 ⟨rfl, hb3⟩
  rw [HXt.out, HSh.out]
  have HX3 := Lib.hid (HX2.out.below hb3 HX2.out.lt)
  have HB3 := Lib.hid (HB2.out.trans (hb3.mono HB2.out.size))
  clear hb3
  go_wp2_with (first
  | (with_reducible show wpList _ _ _ ({ dst := _, op := .load 27 _, type := _, pos := _, after := _, guard := _ } :: _) _ _
     first
     | refine wpList_load_row rfl 27 _ rfl w.heap.size rfl 27 t.cs.toArray (0, 0) _ HX3.out Tryd.underlying27 rfl (by kernel_rfl) ?_
     | refine wpList_load_row_want (by rfl) 27 _ rfl w.heap.size rfl 27 t.cs.toArray (0, 0) _ HX3.out Tryd.underlying27 rfl (by kernel_rfl) ?_)
  | fail)
  refine (refFormed 40 t _ (HI4.out.next HB3.out)).mono ?_
  rintro e w4 ⟨rfl, hb4⟩
  rw [HF4.out]
  have HX4 := Lib.hid (HX3.out.below hb4 HX3.out.lt)
  have HB4 := Lib.hid (HB3.out.trans (hb4.mono HB3.out.size))
  clear hb4
  go_wp2_with (first
  | (with_reducible show wpList _ _ _ ({ dst := _, op := .load 27 _, type := _, pos := _, after := _, guard := _ } :: _) _ _
     first
     | refine wpList_load_row rfl 27 _ rfl w.heap.size rfl 27 t.cs.toArray (0, 0) _ HX4.out Tryd.underlying27 rfl (by kernel_rfl) ?_
     | refine wpList_load_row_want (by rfl) 27 _ rfl w.heap.size rfl 27 t.cs.toArray (0, 0) _ HX4.out Tryd.underlying27 rfl (by kernel_rfl) ?_)
  | fail)
  refine (refPlain 40 t _ (HI4.out.next HB4.out) HSl.out).mono ?_
  rintro e w5 ⟨t3, rfl, hi3, hf3, hs3, hb5⟩
  have HB5 := Lib.hid (HB4.out.trans (hb5.mono HB4.out.size))
  have HI3 := Lib.hid hi3
  have HWr3 : Hid (wrtS 41 t3) := Lib.hid (wrtP_strip 41 t3 (by rw [hs3]; exact HWr.out))
  have HXt3 : Hid (textS 41 t3 = X) := Lib.hid (by rw [← textP_strip 41 t3, hs3]; exact HXt.out)
  clear hb5 hi3 hf3 hs3
  go_wp2_with fail
  refine (refText 41 (by omega) t3 w5 HI3.out HWr3.out).mono ?_
  rintro e w6 ⟨x, rfl, hx, hxs, hb6⟩
  have HB6 := Lib.hid (HB5.out.trans (hb6.mono HB5.out.size))
  have hx2 : x = X := by
    rcases hx with hx | hx
    · rw [hx, HXt3.out]
    · have := HLn.out; rw [HXt3.out] at hx; omega
  subst hx2
  have d1 : decide ((10000 : Int) < (x.size : Int)) = false := decide_eq_false (by have := HLn.out; omega)
  clear hb6 hx hxs
  go_wp2_with fail
  go_ret
  exact ⟨rfl, HB6.out⟩

theorem lawPrints (k : Nat) (t : Tr) (w : World) (h : Tr.In w k t) (hT : Tab w) :
    Calls Tryd.prog 3 #[.agg t.cs.toArray] w fun e w' => e = .returned (.bool true) ∧ Below w.heap.size w w' := by
  by_cases hc : nodesS k 60 t ≤ 2000
  · cases hf : isFormed k t
    · exact lawPrints_no k t w h hT hc hf
    · by_cases hlen : 10000 < (textS (40 + 1) (plainS 40 t)).size
      · exact lawPrints_long k t w h hT hc hf hlen
      · exact lawPrints_short k t w h hT hc hf hlen
  · exact lawPrints_many k t w h hT hc

end Go.Proofs.YtibmcdgnponpmaaDoor
