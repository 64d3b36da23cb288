/- The law's awake: tree.Deep of the zero pattern, tree.Formed of an Empty. -/
import Derived.Test.YtignekgckkdgiaaProg
import Derived.Test.YtignekgckkdgiaaParts
import Derived.Test.YtignekgckkdgiaaTreeSize
import Derived.Test.YtignekgckkdgiaaTreeTurn
namespace Go.Proofs.Ytignekgckkdgiaa
open Go.RowKit
set_option linter.unusedSimpArgs false
set_option linter.unusedVariables false

set_option maxRecDepth 100000 in
set_option maxHeartbeats 2000000 in
theorem belowNone (g1 g2 : Nat) (w : World) (h1 : w.cell? ⟨g1, 0, none⟩ = some (.slice (some ⟨g2, 0, none⟩) 1 1)) (hg1 : g1 < w.heap.size) (h2 : At w g2 27 Tr.blank.cs.toArray) :
    Calls Try.prog 22 #[.slice (some ⟨g1, 0, none⟩) 1 1] w fun e w' => e = .returned (.slice none 0 0) ∧ Below w.heap.size w w' := by
  have hmm := @run_makeMap Try.prog
  have H1 := Lib.hid h1
  have H2 := Lib.hid h2
  have hone := Tr.one Tr.blank
  clear h1 h2
  go_enter Try.func22, Try.ntmps22
  go_wp2_with fail
  clear hmm
  go_loopw [3, 15] (fun nx iv wr => ∃ i : Int, (i = 0 ∨ i = 1) ∧ iv = .int .i64 i ∧ nx = .slice none 0 0 ∧ Hid (Below w.heap.size w wr)) (fun _ iv _ => 1 - (intOf iv).toNat)
  case atStart => exact ⟨0, Or.inl rfl, rfl, rfl, Lib.hid ((Below.refl _ _).alloc (Nat.le_refl _) _)⟩
  case round =>
    obtain ⟨i, hi, rfl, rfl, hB⟩ := hrel
    rcases hi with rfl | rfl
    · have q1 := ((bcell hB.out).1 g1 0 hg1).trans H1.out
      go_wp2_with fail
      clear q1
      go_loopw [3, 21] (fun nx iv wr => ∃ i : Int, (i = 0 ∨ i = 1) ∧ iv = .int .i64 i ∧ nx = .slice none 0 0 ∧ Hid (Below w.heap.size w wr)) (fun _ iv _ => 1 - (intOf iv).toNat)
      case atStart => exact ⟨0, Or.inl rfl, rfl, rfl, hB⟩
      case round =>
        clear hB
        obtain ⟨i, hi, rfl, rfl, hB⟩ := hrel
        rcases hi with rfl | rfl
        · have hA := H2.out.below hB.out H2.out.lt
          have hA2 := boxW_at wr Tr.blank
          have HBx := Lib.hid (boxW_below hB.out Tr.blank)
          have c5 := (At.tr_cell hA2).2.1
          have c5' : (boxW wr Tr.blank).cell? ⟨wr.heap.size, 5, none⟩ = some (.slice none 0 0) := c5
          clear c5
          go_wp2_with (first
            | (with_reducible show wpList _ _ _ ({ dst := _, op := .load 27 _, type := _, pos := _, after := _, guard := _ } :: _) _ _
               refine wpList_load_row rfl 27 _ rfl g2 rfl 27 Tr.blank.cs.toArray (0, 0) _ hA Try.underlying27 rfl (by kernel_rfl) ?_)
            | (with_reducible show wpList _ _ _ ({ dst := none, op := .store 27 _ _, type := _, pos := _, after := _, guard := _ } :: _) _ _
               refine wpList_store_row rfl 27 _ _ rfl wr.heap.size Tr.blank.cs.toArray rfl rfl 27 Tr.blank.cs.toArray (At.new _ _ _) (by kernel_rfl) rfl hone ?_
               change Exit.then _ _ _ _ (boxW wr Tr.blank)) | fail)
          exact ⟨⟨1, Or.inr rfl, rfl, rfl, HBx⟩, by simp [intOf]⟩
        · go_wp2_with fail
          exact ⟨⟨1, Or.inr rfl, rfl, rfl, hB⟩, by simp [intOf]⟩
    · go_wp2_with fail
      go_ret
      exact ⟨rfl, hB.out⟩

set_option maxRecDepth 100000 in
set_option maxHeartbeats 2000000 in
theorem treeDeepNone (w : World) : Calls Try.prog 11 #[.agg Tr.blank.cs.toArray] w fun e w' => e = .returned (.int .i64 1) ∧ Below w.heap.size w w' := by
  have hA1 : At (w.alloc (.cells Tr.blank.cs.toArray 27)) w.heap.size 27 Tr.blank.cs.toArray := At.new _ _ _
  obtain ⟨w3, hw3⟩ : ∃ w3, w3 = ((w.alloc (.cells Tr.blank.cs.toArray 27)).alloc (.cells Tr.blank.cs.toArray 27)).alloc (.cells #[.slice (some ⟨w.heap.size + 1, 0, none⟩) 1 1] 25) := ⟨_, rfl⟩
  have HA := Lib.hid (show At w3 (w.heap.size + 1) 27 Tr.blank.cs.toArray by rw [hw3]; exact (at_new' (w.alloc (.cells Tr.blank.cs.toArray 27)) (w.heap.size + 1) 27 (by simp)).alloc _)
  have HC := Lib.hid (show w3.cell? ⟨w.heap.size + 1 + 1, 0, none⟩ = some (.slice (some ⟨w.heap.size + 1, 0, none⟩) 1 1) by
    rw [hw3]
    exact (at_new' ((w.alloc (.cells Tr.blank.cs.toArray 27)).alloc (.cells Tr.blank.cs.toArray 27)) (w.heap.size + 1 + 1) 25 (cs := #[.slice (some ⟨w.heap.size + 1, 0, none⟩) 1 1]) (by simp)).cell 0)
  have HB := Lib.hid (show Below w.heap.size w w3 by rw [hw3]; exact (below_two _ _).alloc (by simp; omega) _)
  have HL := Lib.hid (show w.heap.size + 1 + 1 < w3.heap.size by rw [hw3]; simp)
  have HW := Lib.hid hw3
  clear hw3
  go_enter Try.func11, Try.ntmps11
  go_wp2_with (first
    | (with_reducible show wpList _ _ _ ({ dst := _, op := .load 27 _, type := _, pos := _, after := _, guard := _ } :: _) _ _
       refine wpList_load_row rfl 27 _ rfl w.heap.size rfl 27 Tr.blank.cs.toArray (0, 0) _ hA1 Try.underlying27 rfl (by kernel_rfl) ?_)
    | (with_reducible show wpList _ _ _ ({ dst := _, op := .buildSlice 25 _ _, type := _, pos := _, after := _, guard := _ } :: _) _ _
       refine wpList_slice_tr rfl _ Tr.blank rfl rfl ?_) | fail)
  rw [← HW.out]
  refine (belowNone _ _ _ HC.out HL.out HA.out).mono ?_
  rintro e w4 ⟨rfl, hb4⟩
  have HB4 := Lib.hid (HB.out.trans (hb4.mono HB.out.size))
  clear hb4 hA1
  go_wp2_with fail
  go_loopw [3, 4] (fun ls lv wr => ls = .slice none 0 0 ∧ lv = .int .i64 1 ∧ Hid (Below w.heap.size w wr)) (fun _ _ _ => 0)
  case atStart => exact ⟨rfl, rfl, HB4⟩
  case round =>
    obtain ⟨rfl, rfl, hB⟩ := hrel
    go_wp2_with fail
    go_ret
    exact ⟨rfl, hB.out⟩

def Tr.empty : Tr := .node 1 ⟨0, 0, 0, 0⟩ none 0 0 [] 0 0 false
theorem built_empty : Try.prog.built 27 [(0, .int .i64 1)] = some Tr.empty.cs.toArray := by kernel_rfl
theorem empty_in (w : World) : Tr.In w 1 Tr.empty := ⟨⟨⟨by show (0 : Nat) < _; omega, by show (0 : Nat) < _; omega, by show (0 : Nat) < _; omega, by show (0 : Nat) < _; omega⟩, by show I64 1; unfold I64; omega, by show I64 0; unfold I64; omega, by show I64 0; unfold I64; omega⟩, ⟨rfl, by show (0 : Nat) ≤ _; omega⟩, fun h => absurd h (Nat.lt_irrefl 0), fun j hj => absurd hj (Nat.not_lt_zero _)⟩
set_option maxRecDepth 100000 in
theorem lawAwake (w : World) : Calls Try.prog 6 #[] w fun e w' => e = .returned (.bool true) ∧ Below w.heap.size w w' := by
  have HF : Hid (isFormed 1 Tr.empty = true) := Lib.hid (by decide)
  go_enter Try.func6, Try.ntmps6
  go_wp2_with (first | (refine wpList_build_as rfl 27 _ rfl Tr.blank.cs.toArray built_none ?_) | fail)
  refine (treeDeepNone _).mono ?_
  rintro e w1 ⟨rfl, hb1⟩
  have HB1 := Lib.hid hb1
  clear hb1
  go_wp2_with (first | (refine wpList_build_as rfl 27 _ rfl Tr.empty.cs.toArray built_empty ?_) | fail)
  refine (treeFormed 1 Tr.empty _ (empty_in _)).mono ?_
  rintro e w2 ⟨rfl, hb2⟩
  rw [HF.out]
  have HB2 := Lib.hid (HB1.out.trans (hb2.mono HB1.out.size))
  clear hb2
  go_wp2_with fail
  go_ret
  exact ⟨rfl, HB2.out⟩

end Go.Proofs.Ytignekgckkdgiaa
