/- parse.judge and tree.Clone. -/
import Derived.Test.YtkbfoelffeocmaaDeepT
import Derived.Test.YtkbfoelffeocmaaTreeSize
import Derived.Test.YtkbfoelffeocmaaCopied
import Derived.Test.YtkbfoelffeocmaaMf
import Derived.Test.YtkbfoelffeocmaaLv
namespace Go.Proofs.Ytkbfoelffeocmaa
open Go.RowKit
set_option linter.unusedSimpArgs false
set_option linter.unusedVariables false

theorem sol_any {w : World} : ∀ (k m : Nat) (t : Tr), Tr.In w m t → Tr.Sol w k t → Tr.In w k t → Tr.Sol w m t
  | _, 0, _, h, _, _ => h.elim
  | 0, _ + 1, _, _, _, h => h.elim
  | k + 1, m + 1, t, h, hs, h' => ⟨hs.1, fun p hp => by
      obtain ⟨j, hj, rfl⟩ := List.getElem_of_mem hp
      exact sol_any k m _ (h.2.2.2 j hj) (hs.2 _ hp) (h'.2.2.2 j hj)⟩
set_option maxRecDepth 100000 in
set_option maxHeartbeats 8000000 in
theorem tJudge (k : Nat) (t : Tr) (w : World) (h : Tr.Ins w k t) (hm : ∀ k, massS k t ≤ 4000000) :
    Calls Try.prog 26 #[.agg t.cs.toArray] w fun e w' => ∃ q : Int, e = .returned (.int .i64 q) ∧ (q = 0 ∧ isFormed k t = true ∨ (q = 8 ∨ q = 9 ∨ q = 2) ∧ isFormed k t = false) ∧ Below w.heap.size w w' := by
  obtain ⟨w1, hw1⟩ : ∃ w1, w1 = w.alloc (.cells t.cs.toArray 34) := ⟨_, rfl⟩
  have hb1 : Below w.heap.size w w1 := by rw [hw1]; exact (Below.refl _ _).alloc (Nat.le_refl _) _
  have hA1 : At w1 w.heap.size 34 t.cs.toArray := by rw [hw1]; exact At.new _ _ _
  have hA0 : At (w.alloc (.cells t.cs.toArray 34)) w.heap.size 34 t.cs.toArray := At.new _ _ _
  have HI1 := Lib.hid (h.next hb1)
  have HA1 := Lib.hid hA1
  have HB1 := Lib.hid hb1
  have HW1 := Lib.hid hw1
  have HMS := Lib.hid hm
  clear hb1 hA1 hw1 h hm
  cases hf : isFormed k t with
  | true =>
    have hf' := hf
    unfold isFormed at hf'
    rw [← sizeF_top, Bool.and_eq_true] at hf'
    have hsz : sizeF k 1 t ≤ 1000 := of_decide_eq_true hf'.1
    have h40 : Tr.Ins w1 40 t := by
      have := deep_in k 40 t HI1.out.1 (isFormed_deep hf)
      exact ⟨this, sol_any k 40 t this HI1.out.2 HI1.out.1⟩
    have H40 := Lib.hid h40
    have HF := Lib.hid hf
    clear hf hf' h40
    go_enter Try.func26, Try.ntmps26
    go_wp2_with (first | (refine wpList_load_row rfl 34 _ rfl w.heap.size rfl 34 t.cs.toArray (0, 0) _ hA0 Try.underlying34 rfl (by kernel_rfl) ?_) | fail)
    rw [← HW1.out]
    refine (tDeep 40 t w1 H40.out (HMS.out 40)).mono ?_
    rintro e w2 ⟨d, rfl, hd1, hd2, hd3, hb2⟩
    have HA2 := Lib.hid (At.below HA1.out hb2 HA1.out.lt)
    have HI2 := Lib.hid (HI1.out.next hb2)
    have HB2 := Lib.hid (HB1.out.trans (hb2.mono HB1.out.size))
    have hdd : ¬ (40 : Int) < (d : Int) := by omega
    clear hb2 hd1 hd2 hd3 hA0
    go_wp2_with (first | (refine wpList_load_row rfl 34 _ rfl w.heap.size rfl 34 t.cs.toArray (0, 0) _ HA2.out Try.underlying34 rfl (by kernel_rfl) ?_) | fail)
    refine (treeSize k t w2 HI2.out.1).mono ?_
    rintro e w3 ⟨rfl, hb3⟩
    have HA3 := Lib.hid (At.below HA2.out hb3 HA2.out.lt)
    have HI3 := Lib.hid (HI2.out.next hb3)
    have HB3 := Lib.hid (HB2.out.trans (hb3.mono HB2.out.size))
    have hss : ¬ (1000 : Int) < sizeF k 1 t := by omega
    clear hb3
    go_wp2_with (first | (refine wpList_load_row rfl 34 _ rfl w.heap.size rfl 34 t.cs.toArray (0, 0) _ HA3.out Try.underlying34 rfl (by kernel_rfl) ?_) | fail)
    refine (treeFormed k t w3 HI3.out.1).mono ?_
    rintro e w4 ⟨rfl, hb4⟩
    rw [HF.out]
    have HB4 := Lib.hid (HB3.out.trans (hb4.mono HB3.out.size))
    clear hb4
    go_wp2_with fail
    go_ret
    exact ⟨0, rfl, Or.inl ⟨rfl, trivial⟩, HB4.out⟩
  | false =>
    have HF := Lib.hid hf
    clear hf
    go_enter Try.func26, Try.ntmps26
    go_wp2_with (first | (refine wpList_load_row rfl 34 _ rfl w.heap.size rfl 34 t.cs.toArray (0, 0) _ hA0 Try.underlying34 rfl (by kernel_rfl) ?_) | fail)
    rw [← HW1.out]
    refine (tDeep k t w1 HI1.out (HMS.out k)).mono ?_
    rintro e w2 ⟨d, rfl, hd1, hd2, hd3, hb2⟩
    have HA2 := Lib.hid (At.below HA1.out hb2 HA1.out.lt)
    have HI2 := Lib.hid (HI1.out.next hb2)
    have HB2 := Lib.hid (HB1.out.trans (hb2.mono HB1.out.size))
    clear hb2 hd1 hd2 hd3 hA0
    by_cases hdd : (40 : Int) < (d : Int)
    · go_wp2_with fail
      go_ret
      exact ⟨8, rfl, Or.inr ⟨Or.inl rfl, trivial⟩, HB2.out⟩
    · go_wp2_with (first | (refine wpList_load_row rfl 34 _ rfl w.heap.size rfl 34 t.cs.toArray (0, 0) _ HA2.out Try.underlying34 rfl (by kernel_rfl) ?_) | fail)
      refine (treeSize k t w2 HI2.out.1).mono ?_
      rintro e w3 ⟨rfl, hb3⟩
      have HA3 := Lib.hid (At.below HA2.out hb3 HA2.out.lt)
      have HI3 := Lib.hid (HI2.out.next hb3)
      have HB3 := Lib.hid (HB2.out.trans (hb3.mono HB2.out.size))
      clear hb3
      by_cases hss : (1000 : Int) < sizeF k 1 t
      · go_wp2_with fail
        go_ret
        exact ⟨9, rfl, Or.inr ⟨Or.inr (Or.inl rfl), trivial⟩, HB3.out⟩
      · go_wp2_with (first | (refine wpList_load_row rfl 34 _ rfl w.heap.size rfl 34 t.cs.toArray (0, 0) _ HA3.out Try.underlying34 rfl (by kernel_rfl) ?_) | fail)
        refine (treeFormed k t w3 HI3.out.1).mono ?_
        rintro e w4 ⟨rfl, hb4⟩
        rw [HF.out]
        have HB4 := Lib.hid (HB3.out.trans (hb4.mono HB3.out.size))
        clear hb4
        go_wp2_with fail
        go_ret
        exact ⟨2, rfl, Or.inr ⟨Or.inr (Or.inr rfl), trivial⟩, HB4.out⟩

set_option maxRecDepth 100000 in
set_option maxHeartbeats 8000000 in
theorem tClone (t : Tr) (w : World) (h : Tr.Ins w 40 t) (hs : slimS 40 t) (hm : massS 40 t ≤ 4000000) :
    Calls Try.prog 27 #[.agg t.cs.toArray] w (MadeI (fun k t => Tr.strip k t) 40 t w) := by
  obtain ⟨w2, hw2⟩ : ∃ w2, w2 = (w.alloc (.cells t.cs.toArray 34)).alloc (.cells #[.int .i64 0, .int .u64 0, .int .u64 0, .int .u64 0, .int .u64 0, .slice none 0 0, .int .i64 0, .int .i64 0, .bool false] 34) := ⟨_, rfl⟩
  have HA0 : Hid (At w2 w.heap.size 34 t.cs.toArray) := Lib.hid (by rw [hw2]; exact (At.new _ _ _).alloc _)
  have HZ0 : Hid (At w2 (w.heap.size + 1) 34 Tr.blank.cs.toArray) := Lib.hid (by rw [hw2]; exact at_new' (w.alloc (.cells t.cs.toArray 34)) (w.heap.size + 1) 34 (cs := Tr.blank.cs.toArray) (by simp))
  have HB0 : Hid (Below w.heap.size w w2) := Lib.hid (by rw [hw2]; exact below_two _ _)
  have HW2 := Lib.hid hw2
  have hA : At ((w.alloc (.cells t.cs.toArray 34)).alloc (.cells #[.int .i64 0, .int .u64 0, .int .u64 0, .int .u64 0, .int .u64 0, .slice none 0 0, .int .i64 0, .int .i64 0, .bool false] 34)) w.heap.size 34 t.cs.toArray := (At.new _ _ _).alloc _
  have HI := Lib.hid (h.next HB0.out)
  have HSL := Lib.hid hs
  have HM := Lib.hid hm
  clear hw2 h hs hm
  go_enter Try.func27, Try.ntmps27
  go_wp2_with (first | (refine wpList_load_row rfl 34 _ rfl w.heap.size rfl 34 t.cs.toArray (0, 0) _ hA Try.underlying34 rfl (by kernel_rfl) ?_) | fail)
  rw [← HW2.out]
  clear hA
  refine (tDeep 40 t w2 HI.out HM.out).mono ?_
  rintro e w3 ⟨d, rfl, hd1, hd2, hd3, hb3⟩
  have hdd : ¬ (40 : Int) < (d : Int) := by omega
  have HA3 := Lib.hid (At.below HA0.out hb3 HA0.out.lt)
  have HZ3 := Lib.hid (At.below HZ0.out hb3 HZ0.out.lt)
  have HI3 := Lib.hid (HI.out.next hb3)
  have HB3 := Lib.hid (HB0.out.trans (hb3.mono HB0.out.size))
  clear hd1 hd2 hd3 hb3
  go_wp2_with (first | (refine wpList_load_row rfl 34 _ rfl w.heap.size rfl 34 t.cs.toArray (0, 0) _ HA3.out Try.underlying34 rfl (by kernel_rfl) ?_) | fail)
  refine (copied 40 t w3 HI3.out.1 HSL.out).mono ?_
  rintro e w4 ⟨t2, rfl, hin, hfr, hst, hb4⟩
  have HZ4 := Lib.hid (At.below HZ3.out hb4 HZ3.out.lt)
  have HB4 := Lib.hid (HB3.out.trans (hb4.mono HB3.out.size))
  have HIn := Lib.hid hin
  have HF4 := Lib.hid hfr
  have HST := Lib.hid hst
  have HSz : Hid (w.heap.size + 2 ≤ w3.heap.size) := Lib.hid HZ3.out.lt
  have hone := Tr.one t2
  clear hin hfr hst hb4
  go_wp2_with (first
    | (with_reducible show wpList _ _ _ ({ dst := none, op := .store _ _ _, type := _, pos := _, after := _, guard := _ } :: _) _ _
       refine wpList_store_row rfl 34 _ _ rfl (w.heap.size + 1) t2.cs.toArray rfl rfl 34 Tr.blank.cs.toArray HZ4.out (by kernel_rfl) rfl hone ?_) | fail)
  have ho : Only (w.heap.size + 1) w4 (w4.setRow (w.heap.size + 1) t2.cs.toArray) := Only.row _ _ _
  exact bodyPost_ret (results_cell_row Try.results27 _ _ (w.heap.size + 1) 34 t2.cs.toArray (0, 0) _ rfl (HZ4.out.row _) Try.underlying34 rfl (by kernel_rfl)) rfl ⟨t2, rfl, HIn.out.only HF4.out ho (by have := HSz.out; omega), HF4.out.lower (by have := HSz.out; omega), HST.out, HB4.out.trans (ho.below (by omega))⟩

end Go.Proofs.Ytkbfoelffeocmaa
