/- What classes.Make answers: the bytes parted by each set in turn. -/
import Derived.Test.YthmppooefajpgaaDoorProg
import Derived.Test.YthmppooefajpgaaDoorWords
import Derived.Test.YthmppooefajpgaaDoorCl
import Derived.Test.YthmppooefajpgaaDoorPart
namespace Go.Proofs.YthmppooefajpgaaDoor
open Go.RowKit

theorem built_one : Tryd.prog.built 26 [(1, .int .i64 1)] = some Cl.one.cells := by kernel_rfl
theorem built_zero : Tryd.prog.built 26 [] = some Cl.zero.cells := by kernel_rfl

set_option maxRecDepth 100000 in
set_option maxHeartbeats 1000000 in
theorem clMake (A : Option Addr) (n c : Nat) (l : List St) (w : World) (h : IsSets w A n l) :
    Calls Tryd.prog 5 #[.slice A n c] w fun e w' => e = .returned (.agg (Cl.make l).cells) ∧ Below w.heap.size w w' := by
  have HB := Lib.hid h
  have hm := h.2.1
  clear h
  have z1 := zero_cl
  go_enter Tryd.func5, Tryd.ntmps5
  go_wp2_with (first | (refine wpList_build_as rfl 26 _ rfl Cl.one.cells built_one ?_) | (refine wpList_store_row rfl 26 _ _ rfl (w.heap.size + 1) Cl.one.cells rfl rfl 26 Cl.zero.cells (at_new' _ _ _ (by simp)) (by rw [Cl.size]; kernel_rfl) (by rw [Cl.size, Cl.size]) (Cl.one' _) ?_))
  clear z1
  go_loopw [9] (fun i wr => ∃ k : Nat, k ≤ n ∧ i = .int .i64 k ∧ Hid (At wr w.heap.size 26 Cl.zero.cells) ∧ Hid (At wr (w.heap.size + 1) 26 (Cl.make (l.take k)).cells) ∧ Hid (Below w.heap.size w wr)) (fun i _ => n - (intOf i).toNat)
  case atStart =>
    refine ⟨0, Nat.zero_le _, rfl, ?_, ?_, ?_⟩
    · exact Lib.hid (((At.new w 26 _).alloc _).rowOther (by omega) _)
    · exact Lib.hid ((at_new' _ _ _ (by simp)).row _)
    · exact Lib.hid (below_row (((Below.refl _ _).alloc (Nat.le_refl _) _).alloc (by simp) _) (by omega) _)
  case round =>
    obtain ⟨k, hk, rfl, hZ, hC, hB⟩ := hrel
    by_cases hlt : k < n
    · have hl : k < l.length := by have := HB.out.1; omega
      obtain ⟨b, off, rfl, hb, hc⟩ := (HB.out.below (Nat.le_refl _) hB.out).2.2.2 (by omega)
      obtain ⟨c0, c1, c2, c3⟩ := hc k hl
      have HS := Lib.hid (HB.out.2.2.1 k hl)
      have HT := Lib.hid (make_take l k hl)
      have hwr := hB.out.size
      clear hc hb
      obtain ⟨s, hs⟩ : ∃ s : St, s = l[k] := ⟨_, rfl⟩
      rw [← hs] at c0 c1 c2 c3
      have HX := Lib.hid hs
      clear hs
      go_wp2_with (first | (refine wpList_load_row rfl 26 _ rfl (w.heap.size + 1) rfl 26 (Cl.make (l.take k)).cells (0, 0) _ (At.alloc hC.out _) Tryd.underlying26 rfl (by rw [Cl.size]; kernel_rfl) ?_) | fail)
      refine (clPart (Cl.make (l.take k)) (make_ok _) s (by rw [HX.out]; exact HS.out) _).mono ?_
      rintro e w1 ⟨rfl, hb1⟩
      have h1 := (At.alloc hC.out _).below hb1 (At.alloc hC.out _).lt
      have h0 := (At.alloc hZ.out _).below hb1 (At.alloc hZ.out _).lt
      have hB1 := (hB.out.alloc hwr _).trans (hb1.mono (by simp; omega))
      have H1 := Lib.hid h1
      have H0 := Lib.hid h0
      have HB1 := Lib.hid hB1
      clear h1 h0 hB1 hb1 c0 c1 c2 c3
      rw [show (Cl.make (l.take k)).part s = Cl.make (l.take (k + 1)) from by rw [HT.out, HX.out]]
      go_wp2_with (first | (refine wpList_store_row rfl 26 _ _ rfl (w.heap.size + 1) (Cl.make (l.take (k + 1))).cells rfl rfl 26 (Cl.make (l.take k)).cells H1.out (by rw [Cl.size]; kernel_rfl) (by rw [Cl.size, Cl.size]) (Cl.one' _) ?_) | fail)
      go_roundw
      case rel => exact ⟨k + 1, by omega, by go_num, H0.out.rowOther (by omega) _, H1.out.row _, below_row HB1.out (by omega) _⟩
      case measure => simp [intOf]; omega
    · obtain rfl : k = n := by omega
      have hC1 := hC.out
      rw [List.take_of_length_le (by have := HB.out.1; omega)] at hC1
      have HC := Lib.hid hC1
      clear hC1 hC
      go_wp2_with (first | (refine wpList_load_row rfl 26 _ rfl (w.heap.size + 1) rfl 26 (Cl.make l).cells (0, 0) _ HC.out Tryd.underlying26 rfl (by rw [Cl.size]; kernel_rfl) ?_) | (refine wpList_store_row rfl 26 _ _ rfl w.heap.size (Cl.make l).cells rfl rfl 26 Cl.zero.cells hZ.out (by rw [Cl.size]; kernel_rfl) (by rw [Cl.size, Cl.size]) (Cl.one' _) ?_))
      exact bodyPost_ret (results_cell_row Tryd.results5 _ _ w.heap.size 26 _ (0, 0) _ rfl (hZ.out.row _) Tryd.underlying26 rfl (by rw [Cl.size]; kernel_rfl)) rfl ⟨rfl, below_row hB.out (Nat.le_refl _) _⟩

theorem field_one (w : World) : (Instr.field 26 (.agg (Cl.make []).cells) 1).run Tryd.prog w = .ok (.int .i64 1) w := by kernel_rfl

set_option maxRecDepth 100000 in
set_option maxHeartbeats 1000000 in
theorem awakeYes (w : World) :
    Calls Tryd.prog 4 #[] w fun e w' => e = .returned (.bool true) ∧ Below w.heap.size w w' := by
  go_enter Tryd.func4, Tryd.ntmps4
  go_wp2_with fail
  refine (clMake none 0 0 [] _ (IsSets.nil _ _)).mono ?_
  rintro e w1 ⟨rfl, hb1⟩
  have hf := field_one w1
  go_wp2
  go_ret
  exact ⟨rfl, hb1⟩

end Go.Proofs.YthmppooefajpgaaDoor
