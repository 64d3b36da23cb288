/- tree.Turn: a formed pattern turned round, None of others. -/
import Derived.Test.YtignekgckkdgiaaProg
import Derived.Test.YtignekgckkdgiaaTurned
import Derived.Test.YtignekgckkdgiaaTreeSize
namespace Go.Proofs.Ytignekgckkdgiaa
open Go.RowKit
set_option linter.unusedSimpArgs false
set_option linter.unusedVariables false

theorem built_none : Try.prog.built 27 [] = some Tr.blank.cs.toArray := by kernel_rfl
set_option maxRecDepth 100000 in
set_option maxHeartbeats 4000000 in
theorem treeTurnNo (k : Nat) (t : Tr) (w : World) (h : Tr.In w k t) (hf : isFormed k t = false) :
    Calls Try.prog 17 #[.agg t.cs.toArray] w fun e w' => e = .returned (.agg Tr.blank.cs.toArray) ∧ Below w.heap.size w w' := by
  have HI := Lib.hid h
  have HF := Lib.hid hf
  obtain ⟨w2, hw2⟩ : ∃ w2, w2 = (w.alloc (.cells t.cs.toArray 27)).alloc (.cells #[.int .i64 0, .int .u64 0, .int .u64 0, .int .u64 0, .int .u64 0, .slice none 0 0, .int .i64 0, .int .i64 0, .bool false] 27) := ⟨_, rfl⟩
  have HA0 : Hid (At w2 w.heap.size 27 t.cs.toArray) := Lib.hid (by rw [hw2]; exact (At.new _ _ _).alloc _)
  have HZ0 : Hid (At w2 (w.heap.size + 1) 27 Tr.blank.cs.toArray) := Lib.hid (by rw [hw2]; exact at_new' (w.alloc (.cells t.cs.toArray 27)) (w.heap.size + 1) 27 (cs := Tr.blank.cs.toArray) (by simp))
  have HB0 : Hid (Below w.heap.size w w2) := Lib.hid (by rw [hw2]; exact below_two _ _)
  have HW2 := Lib.hid hw2
  have hA1 : At ((w.alloc (.cells t.cs.toArray 27)).alloc (.cells #[.int .i64 0, .int .u64 0, .int .u64 0, .int .u64 0, .int .u64 0, .slice none 0 0, .int .i64 0, .int .i64 0, .bool false] 27)) w.heap.size 27 t.cs.toArray := (At.new _ _ _).alloc _
  have hone := Tr.one Tr.blank
  clear h hf hw2
  go_enter Try.func17, Try.ntmps17
  go_wp2_with (first | (refine wpList_load_row rfl 27 _ rfl w.heap.size rfl 27 t.cs.toArray (0, 0) _ hA1 Try.underlying27 rfl (by kernel_rfl) ?_) | fail)
  rw [← HW2.out]
  refine (treeFormed k t _ (HI.out.next HB0.out)).mono ?_
  rintro e w3 ⟨rfl, hb3⟩
  rw [HF.out]
  have HZ3 := Lib.hid (HZ0.out.below hb3 HZ0.out.lt)
  have HB3 := Lib.hid (HB0.out.trans (hb3.mono HB0.out.size))
  clear hb3 hA1
  go_wp2_with (first
    | (refine wpList_build_as rfl 27 _ rfl Tr.blank.cs.toArray built_none ?_)
    | (with_reducible show wpList _ _ _ ({ dst := none, op := .store _ _ _, type := _, pos := _, after := _, guard := _ } :: _) _ _
       refine wpList_store_row rfl 27 _ _ rfl (w.heap.size + 1) Tr.blank.cs.toArray rfl rfl 27 Tr.blank.cs.toArray HZ3.out (by kernel_rfl) rfl hone ?_) | fail)
  exact bodyPost_ret (results_cell_row Try.results17 _ _ (w.heap.size + 1) 27 Tr.blank.cs.toArray (0, 0) _ rfl (HZ3.out.row _) Try.underlying27 rfl (by kernel_rfl)) rfl ⟨rfl, HB3.out.trans ((Only.row (w.heap.size + 1) _ _).below (by omega))⟩

set_option maxRecDepth 100000 in
set_option maxHeartbeats 4000000 in
theorem treeTurnYes (k : Nat) (t : Tr) (w : World) (h : Tr.In w k t) (hs : slimS k t) (hf : isFormed k t = true) :
    Calls Try.prog 17 #[.agg t.cs.toArray] w (Made turnS k t w) := by
  have HI := Lib.hid h
  have HS := Lib.hid hs
  have HF := Lib.hid hf
  obtain ⟨w2, hw2⟩ : ∃ w2, w2 = (w.alloc (.cells t.cs.toArray 27)).alloc (.cells #[.int .i64 0, .int .u64 0, .int .u64 0, .int .u64 0, .int .u64 0, .slice none 0 0, .int .i64 0, .int .i64 0, .bool false] 27) := ⟨_, rfl⟩
  have HA0 : Hid (At w2 w.heap.size 27 t.cs.toArray) := Lib.hid (by rw [hw2]; exact (At.new _ _ _).alloc _)
  have HZ0 : Hid (At w2 (w.heap.size + 1) 27 Tr.blank.cs.toArray) := Lib.hid (by rw [hw2]; exact at_new' (w.alloc (.cells t.cs.toArray 27)) (w.heap.size + 1) 27 (cs := Tr.blank.cs.toArray) (by simp))
  have HB0 : Hid (Below w.heap.size w w2) := Lib.hid (by rw [hw2]; exact below_two _ _)
  have HW2 := Lib.hid hw2
  have hsz2 : w2.heap.size = w.heap.size + 2 := by rw [hw2]; simp
  have HSz := Lib.hid hsz2
  have hA1 : At ((w.alloc (.cells t.cs.toArray 27)).alloc (.cells #[.int .i64 0, .int .u64 0, .int .u64 0, .int .u64 0, .int .u64 0, .slice none 0 0, .int .i64 0, .int .i64 0, .bool false] 27)) w.heap.size 27 t.cs.toArray := (At.new _ _ _).alloc _
  clear h hs hf hw2 hsz2
  go_enter Try.func17, Try.ntmps17
  go_wp2_with (first | (refine wpList_load_row rfl 27 _ rfl w.heap.size rfl 27 t.cs.toArray (0, 0) _ hA1 Try.underlying27 rfl (by kernel_rfl) ?_) | fail)
  rw [← HW2.out]
  refine (treeFormed k t _ (HI.out.next HB0.out)).mono ?_
  rintro e w3 ⟨rfl, hb3⟩
  rw [HF.out]
  have HA3 := Lib.hid (HA0.out.below hb3 HA0.out.lt)
  have HZ3 := Lib.hid (HZ0.out.below hb3 HZ0.out.lt)
  have HB3 := Lib.hid (HB0.out.trans (hb3.mono HB0.out.size))
  have HS3 : Hid (w.heap.size + 2 ≤ w3.heap.size) := Lib.hid (by have := hb3.size; rw [HSz.out] at this; exact this)
  clear hb3 hA1
  go_wp2_with (first | (refine wpList_load_row rfl 27 _ rfl w.heap.size rfl 27 t.cs.toArray (0, 0) _ HA3.out Try.underlying27 rfl (by kernel_rfl) ?_) | fail)
  refine (turned k t _ (HI.out.next HB3.out) HS.out).mono ?_
  rintro e w4 ⟨t2, rfl, hin, hfr, hst, hb4⟩
  have HZ4 := Lib.hid (HZ3.out.below hb4 HZ3.out.lt)
  have HB4 := Lib.hid (HB3.out.trans (hb4.mono HB3.out.size))
  have HIn := Lib.hid hin
  have HFr := Lib.hid (Tr.From.lower HS3.out k t2 hfr)
  have HSt := Lib.hid hst
  have hone := Tr.one t2
  clear hin hfr hst hb4
  go_wp2_with (first
    | (with_reducible show wpList _ _ _ ({ dst := none, op := .store _ _ _, type := _, pos := _, after := _, guard := _ } :: _) _ _
       refine wpList_store_row rfl 27 _ _ rfl (w.heap.size + 1) t2.cs.toArray rfl rfl 27 Tr.blank.cs.toArray HZ4.out (by kernel_rfl) rfl hone ?_) | fail)
  have hO := Only.row (w.heap.size + 1) w4 t2.cs.toArray
  exact bodyPost_ret (results_cell_row Try.results17 _ _ (w.heap.size + 1) 27 t2.cs.toArray (0, 0) _ rfl (HZ4.out.row _) Try.underlying27 rfl (by kernel_rfl)) rfl ⟨t2, rfl, HIn.out.only HFr.out hO (by omega), Tr.From.lower (by omega) k t2 HFr.out, HSt.out, HB4.out.trans (hO.below (by omega))⟩

end Go.Proofs.Ytignekgckkdgiaa
