/- ClassesRefine answers true, whatever sets there are, whatever classes are handed in. -/
import Derived.Test.YthmppooefajpgaaProg
import Derived.Test.YthmppooefajpgaaWords
import Derived.Test.YthmppooefajpgaaCl
import Derived.Test.YthmppooefajpgaaRight
import Derived.Test.YthmppooefajpgaaMake
import Derived.Test.YthmppooefajpgaaAlike
import Derived.Test.YthmppooefajpgaaMore
import Derived.Test.YthmppooefajpgaaRefine
import Derived.Test.YthmppooefajpgaaAppend
import Derived.Test.YthmppooefajpgaaClEq
import Derived.Deep.RegionHeld3
namespace Go.Proofs.Ythmppooefajpgaa
open Go.RowKit
set_option linter.unusedSimpArgs false
set_option linter.unusedVariables false

set_option maxRecDepth 100000 in
set_option maxHeartbeats 4000000 in
theorem lawRefineLong (A : Option Addr) (n c : Nat) (s : St) (raw : Cl) (hm : n ≤ 9223372036854775807) (hn : 30 < n) (w : World) :
    Calls Try.prog 4 #[.slice A n c, .agg #[.int .u64 s.w0, .int .u64 s.w1, .int .u64 s.w2, .int .u64 s.w3], .agg raw.cells] w fun e w' => e = .returned (.bool true) ∧ Below w.heap.size w w' := by
  go_enter Try.func4, Try.ntmps4
  go_wp2_with fail
  refine (awakeYes _).mono ?_
  rintro e w1 ⟨rfl, hb1⟩
  have hB : Below w.heap.size w w1 := (((Below.refl _ _).alloc (Nat.le_refl _) (Obj.cells #[.int .u64 s.w0, .int .u64 s.w1, .int .u64 s.w2, .int .u64 s.w3] 33)).alloc (by simp) (Obj.cells raw.cells 26)).trans (hb1.mono (by simp; omega))
  go_wp2_with fail
  refine (awakeYes _).mono ?_
  rintro e w2 ⟨rfl, hb2⟩
  go_wp2_with fail
  go_ret
  exact ⟨rfl, hB.trans (hb2.mono hB.size)⟩

set_option maxRecDepth 100000 in
set_option maxHeartbeats 8000000 in
theorem lawRefineNo (A : Option Addr) (n c : Nat) (l : List St) (s : St) (hs : s.Ok) (raw : Cl) (hraw : raw.Ok) (hr : raw.right = false) (w : World) (h : IsSets w A n l) (hn : n ≤ 30) :
    Calls Try.prog 4 #[.slice A n c, .agg #[.int .u64 s.w0, .int .u64 s.w1, .int .u64 s.w2, .int .u64 s.w3], .agg raw.cells] w fun e w' => e = .returned (.bool true) ∧ Below w.heap.size w w' := by
  have HI := Lib.hid h
  have HRr := Lib.hid hr
  obtain ⟨x, hx⟩ : ∃ x : Cl, x = Cl.zero := ⟨_, rfl⟩
  have HXe := Lib.hid hx
  have HXo : Hid x.Ok := by rw [hx]; exact Cl.zero_ok
  clear h hr hx
  have z1 := zero_cl
  go_enter Try.func4, Try.ntmps4
  go_wp2_with fail
  refine (awakeYes _).mono ?_
  rintro e w1 ⟨rfl, hb1⟩
  have hS : SetAt w1 w.heap.size 33 s := At.step ((At.new w 33 #[.int .u64 s.w0, .int .u64 s.w1, .int .u64 s.w2, .int .u64 s.w3]).alloc (Obj.cells raw.cells 26)) hb1 rfl
  have hR : At w1 (w.heap.size + 1) 26 raw.cells := At.step (at_new' (w.alloc (Obj.cells #[.int .u64 s.w0, .int .u64 s.w1, .int .u64 s.w2, .int .u64 s.w3] 33)) (w.heap.size + 1) 26 (cs := raw.cells) (by simp)) hb1 rfl
  have hB : Below w.heap.size w w1 := (((Below.refl _ _).alloc (Nat.le_refl _) (Obj.cells #[.int .u64 s.w0, .int .u64 s.w1, .int .u64 s.w2, .int .u64 s.w3] 33)).alloc (by simp) (Obj.cells raw.cells 26)).trans (hb1.mono (by simp; omega))
  clear hb1
  have HR := Lib.hid hR
  obtain ⟨c0, c1, c2, c3⟩ := hS.cells
  go_wp2_with (first | (refine wpList_load_row rfl 26 _ rfl (w.heap.size + 1) rfl 26 raw.cells (0, 0) _ HR.out Try.underlying26 rfl (by rw [Cl.size]; kernel_rfl) ?_) | fail)
  refine (clRefineV raw hraw s hs x (by rw [refine_no HRr.out]; exact HXe.out.symm) _).mono ?_
  rintro e w2 ⟨rfl, hb2⟩
  have hS := hS.step hb2 rfl
  have hR := hR.step hb2 rfl
  have hB := below_step hB hb2 rfl rfl rfl rfl
  clear hb2 c0 c1 c2 c3 HR
  obtain ⟨gx, hgx⟩ : ∃ gx, gx = w2.heap.size := ⟨_, rfl⟩
  go_wp2_with (first | (refine wpList_store_row rfl 26 _ _ rfl w2.heap.size x.cells rfl rfl 26 Cl.zero.cells (at_new' _ _ _ rfl) (by rw [Cl.size]; kernel_rfl) (by rw [Cl.size, Cl.size]) (Cl.one' _) ?_) | fail)
  have hX : At ((w2.alloc (Obj.cells Cl.zero.cells 26)).setRow gx x.cells) gx 26 x.cells := (at_new' _ _ _ hgx).row _
  have hxS : w.heap.size < gx := by have := hS.lt; omega
  have hxR : w.heap.size + 1 < gx := by have := hR.lt; omega
  have hS : SetAt ((w2.alloc (Obj.cells Cl.zero.cells 26)).setRow gx x.cells) w.heap.size 33 s := At.rowOther (At.alloc hS _) (by omega) _
  have hR : At ((w2.alloc (Obj.cells Cl.zero.cells 26)).setRow gx x.cells) (w.heap.size + 1) 26 raw.cells := At.rowOther (At.alloc hR _) (by omega) _
  have hB : Below w.heap.size w ((w2.alloc (Obj.cells Cl.zero.cells 26)).setRow gx x.cells) := below_row (hB.alloc hB.size _) (by omega) _
  rw [← hgx]
  clear hgx
  have hq0 : ∀ W, (Op.equalIn 10000 26 (.agg x.cells) (.agg Cl.zero.cells)).run Try.prog W = .ok true W := fun W => by rw [HXe.out]; exact clEq W Cl.zero
  refine wp_region_noPanic ?_
  refine wp_region_held_drew (S := (fun w' => At w' (w.heap.size + 1) 26 raw.cells ∧ At w' gx 26 x.cells)) (by kernel_rfl) (by exact ⟨hR, hX⟩) (fun hHeld => ?_)
  refine wpAnyH_take (i := 0) (oi := ⟨some 19, _, _, _, _, _⟩) (v := _) rfl (by kernel_rfl) (by kernel_rfl) (by kernel_rfl) (fun _ _ _ h => h) (yieldsIf_load_at (by rfl) 26 _ rfl (w.heap.size + 1) rfl raw.cells _ (fun _ h => h.1) Try.underlying26 rfl (by rw [Cl.size]; kernel_rfl)) (by exact hHeld) ?_
  simp only [Act.put, List.setIfInBounds_toArray, List.set_cons_zero, List.set_cons_succ]
  refine wpAnyH_take (i := 2) (oi := ⟨some 21, _, _, _, _, _⟩) (v := _) rfl (by kernel_rfl) (by kernel_rfl) (by kernel_rfl) (fun _ _ _ h => h) (yieldsIf_load_at (by rfl) 26 _ rfl (w.heap.size + 1) rfl raw.cells _ (fun _ h => h.1) Try.underlying26 rfl (by rw [Cl.size]; kernel_rfl)) (by exact hHeld) ?_
  simp only [Act.put, List.setIfInBounds_toArray, List.set_cons_zero, List.set_cons_succ]
  refine wpAnyH_ready (rs := [1]) (by kernel_rfl) (by simp) ?_
  refine AllReadyH.cons (o := ⟨some 20, _, _, _, _, _⟩) rfl (fun K hK => ?_) AllReadyH.nil
  go_simp
  ((with_reducible refine (clRightV raw hraw false HRr.out _).mono ?_))
  rintro e w4 ⟨rfl, hb3⟩
  have hR := hR.step hb3 rfl
  have hX := hX.step hb3 rfl
  have hS := hS.step hb3 rfl
  have hB := below_step hB hb3 rfl rfl rfl rfl
  clear hb3
  dsimp only
  refine hK.out _ _ ?_ (fun hHeld => ?_)
  · exact ⟨hR, hX⟩
  clear hK K
  try simp only [Act.put, List.setIfInBounds_toArray, List.set_cons_zero, List.set_cons_succ]
  refine wpAnyH_ready (rs := [3]) (by kernel_rfl) (by simp) ?_
  refine AllReadyH.cons (o := ⟨some 22, _, _, _, _, _⟩) rfl (fun K hK => ?_) AllReadyH.nil
  go_simp
  ((with_reducible refine (lawRightV raw hraw false HRr.out _).mono ?_))
  rintro e w4 ⟨rfl, hb3⟩
  have hR := hR.step hb3 rfl
  have hX := hX.step hb3 rfl
  have hS := hS.step hb3 rfl
  have hB := below_step hB hb3 rfl rfl rfl rfl
  clear hb3
  dsimp only
  refine hK.out _ _ ?_ (fun hHeld => ?_)
  · exact ⟨hR, hX⟩
  clear hK K
  try simp only [Act.put, List.setIfInBounds_toArray, List.set_cons_zero, List.set_cons_succ]
  refine wpAnyH_take (i := 4) (oi := ⟨some 23, _, _, _, _, _⟩) (v := ?_) rfl (by kernel_rfl) (by kernel_rfl) (by kernel_rfl) (fun _ _ _ h => h) (Or.inl ⟨by rfl, ?_⟩) (by exact hHeld) ?_
  rotate_left
  · (intro w hSw; (try dsimp only at hSw); go_simp; try (with_reducible rfl))
  simp only [Act.put, List.setIfInBounds_toArray, List.set_cons_zero, List.set_cons_succ]
  refine wpAnyH_take (i := 5) (oi := ⟨some 24, _, _, _, _, _⟩) (v := ?_) rfl (by kernel_rfl) (by kernel_rfl) (by kernel_rfl) (fun _ _ _ h => h) (Or.inl ⟨by rfl, ?_⟩) (by exact hHeld) ?_
  rotate_left
  · (intro w hSw; (try dsimp only at hSw); go_simp; try (with_reducible rfl))
  simp only [Act.put, List.setIfInBounds_toArray, List.set_cons_zero, List.set_cons_succ]
  refine wpAnyH_take (i := 6) (oi := ⟨some 25, _, _, _, _, _⟩) (v := _) rfl (by kernel_rfl) (by kernel_rfl) (by kernel_rfl) (fun _ _ _ h => h) (yieldsIf_load_at (by rfl) 26 _ rfl (w.heap.size + 1) rfl raw.cells _ (fun _ h => h.1) Try.underlying26 rfl (by rw [Cl.size]; kernel_rfl)) (by exact hHeld) ?_
  simp only [Act.put, List.setIfInBounds_toArray, List.set_cons_zero, List.set_cons_succ]
  refine wpAnyH_ready (rs := [7]) (by kernel_rfl) (by simp) ?_
  refine AllReadyH.cons (o := ⟨some 26, _, _, _, _, _⟩) rfl (fun K hK => ?_) AllReadyH.nil
  go_simp
  ((with_reducible refine (lawRightV raw hraw false HRr.out _).mono ?_))
  rintro e w4 ⟨rfl, hb3⟩
  have hR := hR.step hb3 rfl
  have hX := hX.step hb3 rfl
  have hS := hS.step hb3 rfl
  have hB := below_step hB hb3 rfl rfl rfl rfl
  clear hb3
  dsimp only
  refine hK.out _ _ ?_ (fun hHeld => ?_)
  · exact ⟨hR, hX⟩
  clear hK K
  try simp only [Act.put, List.setIfInBounds_toArray, List.set_cons_zero, List.set_cons_succ]
  refine wpAnyH_take (i := 8) (oi := ⟨some 27, _, _, _, _, _⟩) (v := ?_) rfl (by kernel_rfl) (by kernel_rfl) (by kernel_rfl) (fun _ _ _ h => h) (Or.inl ⟨by rfl, ?_⟩) (by exact hHeld) ?_
  rotate_left
  · (intro w hSw; (try dsimp only at hSw); go_simp; try (with_reducible rfl))
  simp only [Act.put, List.setIfInBounds_toArray, List.set_cons_zero, List.set_cons_succ]
  refine wpAnyH_take (i := 9) (oi := ⟨some 28, _, _, _, _, _⟩) (v := ?_) rfl (by kernel_rfl) (by kernel_rfl) (by kernel_rfl) (fun _ _ _ h => h) (Or.inl ⟨by rfl, ?_⟩) (by exact hHeld) ?_
  rotate_left
  · (intro w hSw; (try dsimp only at hSw); go_simp; try (with_reducible rfl))
  simp only [Act.put, List.setIfInBounds_toArray, List.set_cons_zero, List.set_cons_succ]
  refine wpAnyH_take (i := 10) (oi := ⟨some 29, _, _, _, _, _⟩) (v := _) rfl (by kernel_rfl) (by kernel_rfl) (by kernel_rfl) (fun _ _ _ h => h) (yieldsIf_load_at (by rfl) 26 _ rfl gx rfl x.cells _ (fun _ h => h.2) Try.underlying26 rfl (by rw [Cl.size]; kernel_rfl)) (by exact hHeld) ?_
  simp only [Act.put, List.setIfInBounds_toArray, List.set_cons_zero, List.set_cons_succ]
  refine wpAnyH_take (i := 11) (oi := ⟨some 30, _, _, _, _, _⟩) (v := ?_) rfl (by kernel_rfl) (by kernel_rfl) (by kernel_rfl) (fun _ _ _ h => h) (Or.inl ⟨by rfl, ?_⟩) (by exact hHeld) ?_
  rotate_left
  · (intro w hSw; (try dsimp only at hSw); go_simp; try (with_reducible rfl))
  simp only [Act.put, List.setIfInBounds_toArray, List.set_cons_zero, List.set_cons_succ]
  refine wpAnyH_take (i := 12) (oi := ⟨some 31, _, _, _, _, _⟩) (v := ?_) rfl (by kernel_rfl) (by kernel_rfl) (by kernel_rfl) (fun _ _ _ h => h) (Or.inl ⟨by rfl, ?_⟩) (by exact hHeld) ?_
  rotate_left
  · (intro w hSw; (try dsimp only at hSw); go_simp; try (with_reducible rfl))
  simp only [Act.put, List.setIfInBounds_toArray, List.set_cons_zero, List.set_cons_succ]
  refine wpAnyH_take (i := 13) (oi := ⟨some 32, _, _, _, _, _⟩) (v := ?_) rfl (by kernel_rfl) (by kernel_rfl) (by kernel_rfl) (fun _ _ _ h => h) (Or.inl ⟨by rfl, ?_⟩) (by exact hHeld) ?_
  rotate_left
  · (intro w hSw; (try dsimp only at hSw); go_simp; try (with_reducible rfl))
  simp only [Act.put, List.setIfInBounds_toArray, List.set_cons_zero, List.set_cons_succ]
  refine wpAnyH_take (i := 14) (oi := ⟨some 33, _, _, _, _, _⟩) (v := ?_) rfl (by kernel_rfl) (by kernel_rfl) (by kernel_rfl) (fun _ _ _ h => h) (Or.inl ⟨by rfl, ?_⟩) (by exact hHeld) ?_
  rotate_left
  · (intro w hSw; (try dsimp only at hSw); go_simp; try (with_reducible rfl))
  simp only [Act.put, List.setIfInBounds_toArray, List.set_cons_zero, List.set_cons_succ]
  refine wpAnyH_take (i := 15) (oi := ⟨some 34, _, _, _, _, _⟩) (v := ?_) rfl (by kernel_rfl) (by kernel_rfl) (by kernel_rfl) (fun _ _ _ h => h) (Or.inl ⟨by rfl, ?_⟩) (by exact hHeld) ?_
  rotate_left
  · (intro w hSw; (try dsimp only at hSw); go_simp; try (with_reducible rfl))
  simp only [Act.put, List.setIfInBounds_toArray, List.set_cons_zero, List.set_cons_succ]
  refine wpAnyH_take (i := 16) (oi := ⟨some 35, _, _, _, _, _⟩) (v := _) rfl (by kernel_rfl) (by kernel_rfl) (by kernel_rfl) (fun _ _ _ h => h) (yieldsIf_load_at (by rfl) 26 _ rfl (w.heap.size + 1) rfl raw.cells _ (fun _ h => h.1) Try.underlying26 rfl (by rw [Cl.size]; kernel_rfl)) (by exact hHeld) ?_
  simp only [Act.put, List.setIfInBounds_toArray, List.set_cons_zero, List.set_cons_succ]
  refine wpAnyH_ready (rs := [17]) (by kernel_rfl) (by simp) ?_
  refine AllReadyH.cons (o := ⟨some 36, _, _, _, _, _⟩) rfl (fun K hK => ?_) AllReadyH.nil
  go_simp
  ((with_reducible refine (lawRightV raw hraw false HRr.out _).mono ?_))
  rintro e w4 ⟨rfl, hb3⟩
  have hR := hR.step hb3 rfl
  have hX := hX.step hb3 rfl
  have hS := hS.step hb3 rfl
  have hB := below_step hB hb3 rfl rfl rfl rfl
  clear hb3
  dsimp only
  refine hK.out _ _ ?_ (fun hHeld => ?_)
  · exact ⟨hR, hX⟩
  clear hK K
  try simp only [Act.put, List.setIfInBounds_toArray, List.set_cons_zero, List.set_cons_succ]
  refine wpAnyH_take (i := 18) (oi := ⟨some 37, _, _, _, _, _⟩) (v := ?_) rfl (by kernel_rfl) (by kernel_rfl) (by kernel_rfl) (fun _ _ _ h => h) (Or.inl ⟨by rfl, ?_⟩) (by exact hHeld) ?_
  rotate_left
  · (intro w hSw; (try dsimp only at hSw); go_simp; try (with_reducible rfl))
  simp only [Act.put, List.setIfInBounds_toArray, List.set_cons_zero, List.set_cons_succ]
  refine wpAnyH_take (i := 19) (oi := ⟨some 38, _, _, _, _, _⟩) (v := undef) rfl (by kernel_rfl) (by kernel_rfl) (by kernel_rfl) (fun _ _ _ h => h) (Or.inr ⟨by rfl, rfl⟩) (by exact hHeld) ?_
  simp only [Act.put, List.setIfInBounds_toArray, List.set_cons_zero, List.set_cons_succ]
  refine wpAnyH_take (i := 20) (oi := ⟨some 39, _, _, _, _, _⟩) (v := undef) rfl (by kernel_rfl) (by kernel_rfl) (by kernel_rfl) (fun _ _ _ h => h) (Or.inr ⟨by rfl, rfl⟩) (by exact hHeld) ?_
  simp only [Act.put, List.setIfInBounds_toArray, List.set_cons_zero, List.set_cons_succ]
  refine wpAnyH_take (i := 21) (oi := ⟨some 40, _, _, _, _, _⟩) (v := undef) rfl (by kernel_rfl) (by kernel_rfl) (by kernel_rfl) (fun _ _ _ h => h) (Or.inr ⟨by rfl, rfl⟩) (by exact hHeld) ?_
  simp only [Act.put, List.setIfInBounds_toArray, List.set_cons_zero, List.set_cons_succ]
  refine wpAnyH_take (i := 22) (oi := ⟨some 41, _, _, _, _, _⟩) (v := ?_) rfl (by kernel_rfl) (by kernel_rfl) (by kernel_rfl) (fun _ _ _ h => h) (Or.inl ⟨by rfl, ?_⟩) (by exact hHeld) ?_
  rotate_left
  · (intro w hSw; (try dsimp only at hSw); go_simp; try (with_reducible rfl))
  simp only [Act.put, List.setIfInBounds_toArray, List.set_cons_zero, List.set_cons_succ]
  refine wpAnyH_take (i := 23) (oi := ⟨some 42, _, _, _, _, _⟩) (v := ?_) rfl (by kernel_rfl) (by kernel_rfl) (by kernel_rfl) (fun _ _ _ h => h) (Or.inl ⟨by rfl, ?_⟩) (by exact hHeld) ?_
  rotate_left
  · (intro w hSw; (try dsimp only at hSw); go_simp; try (with_reducible rfl))
  simp only [Act.put, List.setIfInBounds_toArray, List.set_cons_zero, List.set_cons_succ]
  refine wpAnyH_done (by kernel_rfl) ?_ _
  refine NoPanic.normal ?_
  clear hR hX
  have hI : IsSets _ A n l := HI.out.next hB
  have hz0 := hS.lt
  obtain ⟨B0, hB0⟩ : ∃ B0 : Nat, B0 = w4.heap.size := ⟨_, rfl⟩
  rw [← hB0] at hz0
  have hz : B0 ≤ w4.heap.size := by omega
  have hWB : w.heap.size ≤ B0 := by omega
  clear hB0
  have hl30 : l.length ≤ 30 := by have := HI.out.1; omega
  have hok := HI.out.2.2.1
  have hq1 : ∀ W, (Op.equalIn 10000 26 (.agg ((Cl.make l).part s).cells) (.agg ((Cl.make l).part s).cells)).run Try.prog W = .ok true W := fun W => clEq W _
  go_wp2_with fail
  refine wp_region_noPanic ?_
  refine wp_region_held_drew (S := (fun w' => SetAt w' w.heap.size 33 s)) (by kernel_rfl) (by exact hS) (fun hHeld => ?_)
  have hS := hS.drew
  have hI := hI.drew
  have hB := Below.drew hB
  refine wpAnyH_take (i := 0) (oi := ⟨some 43, _, _, _, _, _⟩) (v := ?_) rfl (by kernel_rfl) (by kernel_rfl) (by kernel_rfl) (fun _ _ _ h => h) (Or.inl ⟨by rfl, ?_⟩) (by exact hHeld) ?_
  rotate_left
  · (intro w hSw; (try dsimp only at hSw); go_simp; try (with_reducible rfl))
  simp only [Act.put, List.setIfInBounds_toArray, List.set_cons_zero, List.set_cons_succ]
  refine wpAnyH_take (i := 2) (oi := ⟨some 45, _, _, _, _, _⟩) (v := ?_) rfl (by kernel_rfl) (by kernel_rfl) (by kernel_rfl) (fun _ _ _ h => h) (Or.inl ⟨by rfl, ?_⟩) (by exact hHeld) ?_
  rotate_left
  · (intro w hSw; (try dsimp only at hSw); obtain ⟨c0, c1, c2, c3⟩ := SetAt.cells hSw; go_simp; try (with_reducible rfl))
  simp only [Act.put, List.setIfInBounds_toArray, List.set_cons_zero, List.set_cons_succ]
  refine wpAnyH_take (i := 5) (oi := ⟨some 48, _, _, _, _, _⟩) (v := ?_) rfl (by kernel_rfl) (by kernel_rfl) (by kernel_rfl) (fun _ _ _ h => h) (Or.inl ⟨by rfl, ?_⟩) (by exact hHeld) ?_
  rotate_left
  · (intro w hSw; (try dsimp only at hSw); go_simp; try (with_reducible rfl))
  simp only [Act.put, List.setIfInBounds_toArray, List.set_cons_zero, List.set_cons_succ]
  refine wpAnyH_take (i := 7) (oi := ⟨some 50, _, _, _, _, _⟩) (v := ?_) rfl (by kernel_rfl) (by kernel_rfl) (by kernel_rfl) (fun _ _ _ h => h) (Or.inl ⟨by rfl, ?_⟩) (by exact hHeld) ?_
  rotate_left
  · (intro w hSw; (try dsimp only at hSw); obtain ⟨c0, c1, c2, c3⟩ := SetAt.cells hSw; go_simp; try (with_reducible rfl))
  simp only [Act.put, List.setIfInBounds_toArray, List.set_cons_zero, List.set_cons_succ]
  refine wpAnyH_ready (rs := [1, 4, 8]) (by kernel_rfl) (by simp) ?_
  refine AllReadyH.cons (o := ⟨some 44, _, _, _, _, _⟩) rfl (fun K hK => ?_) ?_
  · go_simp
    ((with_reducible refine (clMake A n c l _ hI).mono ?_))
    rintro e w3 ⟨rfl, hb3⟩
    have hS := hS.step hb3 rfl
    have hB := below_step hB hb3 rfl rfl rfl rfl
    (try have hI := IsSets.step hI hb3 rfl)
    have hz := Nat.le_trans hz hb3.size
    (try have h4 := At.step h4 hb3 rfl)
    (try have h8 := At.step h8 hb3 rfl)
    (try have h6 := SetsRow.step h6 hb3 rfl)
    clear hb3
    try dsimp only
    refine hK.out _ _ ?_ (fun hHeld => ?_)
    · exact hS
    clear hK K
    try simp only [Act.put, List.setIfInBounds_toArray, List.set_cons_zero, List.set_cons_succ]
    refine wpAnyH_ready (rs := [3, 4, 8]) (by kernel_rfl) (by simp) ?_
    refine AllReadyH.cons (o := ⟨some 46, _, _, _, _, _⟩) rfl (fun K hK => ?_) ?_
    · go_simp
      ((with_reducible refine (clRefineV (Cl.make l) (make_ok l) s hs ((Cl.make l).part s) (refine_yes (make_right l)) _).mono ?_))
      rintro e w3 ⟨rfl, hb3⟩
      have hS := hS.step hb3 rfl
      have hB := below_step hB hb3 rfl rfl rfl rfl
      (try have hI := IsSets.step hI hb3 rfl)
      have hz := Nat.le_trans hz hb3.size
      (try have h4 := At.step h4 hb3 rfl)
      (try have h8 := At.step h8 hb3 rfl)
      (try have h6 := SetsRow.step h6 hb3 rfl)
      clear hb3
      try dsimp only
      refine hK.out _ _ ?_ (fun hHeld => ?_)
      · exact hS
      clear hK K
      try simp only [Act.put, List.setIfInBounds_toArray, List.set_cons_zero, List.set_cons_succ]
      refine wpAnyH_ready (rs := [4, 8]) (by kernel_rfl) (by simp) ?_
      refine AllReadyH.cons (o := ⟨some 47, _, _, _, _, _⟩) rfl (fun K hK => ?_) ?_
      · refine step_slice0 rfl rfl (fun g4 w3 h4n hb3 hg4 => ?_)
        have hg4b : B0 ≤ g4 := Nat.le_trans hz hg4
        (try have hne : g4 ≠ g8 := Nat.ne_of_gt (Nat.lt_of_lt_of_le (At.lt h8) hg4))
        clear hg4
        have hS := hS.step hb3 rfl
        have hB := below_step hB hb3 rfl rfl rfl rfl
        (try have hI := IsSets.step hI hb3 rfl)
        have hz := Nat.le_trans hz hb3.size
        (try have h4 := At.step h4 hb3 rfl)
        (try have h8 := At.step h8 hb3 rfl)
        (try have h6 := SetsRow.step h6 hb3 rfl)
        clear hb3
        try dsimp only
        have h4 := h4n
        clear h4n
        refine hK.out _ _ ?_ (fun hHeld => ?_)
        · exact hS
        clear hK K
        try simp only [Act.put, List.setIfInBounds_toArray, List.set_cons_zero, List.set_cons_succ]
        refine wpAnyH_ready (rs := [6, 8]) (by kernel_rfl) (by simp) ?_
        refine AllReadyH.cons (o := ⟨some 49, _, _, _, _, _⟩) rfl (fun K hK => ?_) ?_
        · refine step_append_any rfl _ _ 22 rfl _ _ rfl rfl (append_sets _ B0 g4 A n c l _ h4 hg4b hz hI hn) ?_
          rintro v6 w3 ⟨h6, hgr⟩
          have hS : SetAt w3 w.heap.size 33 s := At.grown hS hgr (by intro e; injection e with e; omega)
          have hB := below_grown hB (Nat.le_trans hWB hz) hgr (fun k hk => by injection hk with hk; omega)
          (try have h8 := At.grown h8 hgr (by intro e; injection e with e; exact hne e.symm))
          have hz := Nat.le_trans hz hgr.size
          clear hI h4 hgr
          refine hK.out _ _ ?_ (fun hHeld => ?_)
          · exact hS
          clear hK K
          try simp only [Act.put, List.setIfInBounds_toArray, List.set_cons_zero, List.set_cons_succ]
          refine wpAnyH_ready (rs := [8]) (by kernel_rfl) (by simp) ?_
          refine AllReadyH.cons (o := ⟨some 51, _, _, _, _, _⟩) rfl (fun K hK => ?_) AllReadyH.nil
          refine step_slice1 rfl _ s rfl rfl (fun g8 w3 h8n hb3 hg8 => ?_)
          (try have hne : g4 ≠ g8 := Nat.ne_of_lt (Nat.lt_of_lt_of_le (At.lt h4) hg8))
          clear hg8
          have hS := hS.step hb3 rfl
          have hB := below_step hB hb3 rfl rfl rfl rfl
          (try have hI := IsSets.step hI hb3 rfl)
          have hz := Nat.le_trans hz hb3.size
          (try have h4 := At.step h4 hb3 rfl)
          (try have h8 := At.step h8 hb3 rfl)
          (try have h6 := SetsRow.step h6 hb3 rfl)
          clear hb3
          try dsimp only
          have h8 := h8n
          clear h8n
          refine hK.out _ _ ?_ (fun hHeld => ?_)
          · exact hS
          clear hK K
          try simp only [Act.put, List.setIfInBounds_toArray, List.set_cons_zero, List.set_cons_succ]
          refine wpAnyH_ready (rs := [9]) (by kernel_rfl) (by simp) ?_
          refine AllReadyH.cons (o := ⟨some 52, _, _, _, _, _⟩) rfl (fun K hK => ?_) AllReadyH.nil
          refine step_append_any rfl _ _ 22 rfl _ _ rfl rfl (append_set _ B0 g8 v6 l s _ h6 h8 hz hl30 hok hs) ?_
          rintro v9 w3 ⟨⟨g9, cap9, rfl, hI9⟩, hgr⟩
          have hrow : ∀ k, v6.ownBlock = some k → B0 ≤ k := fun k hk => (World.ownsRow.lt h6 k hk).1
          have hS : SetAt w3 w.heap.size 33 s := At.grown hS hgr (fun e => by have := hrow _ e.symm; omega)
          have hB := below_grown hB (Nat.le_trans hWB hz) hgr (fun k hk => Nat.le_trans hWB (hrow k hk))
          have hz := Nat.le_trans hz hgr.size
          clear h6 h8 hgr hrow
          refine hK.out _ _ ?_ (fun hHeld => ?_)
          · exact hS
          clear hK K
          try simp only [Act.put, List.setIfInBounds_toArray, List.set_cons_zero, List.set_cons_succ]
          refine wpAnyH_ready (rs := [10]) (by kernel_rfl) (by simp) ?_
          refine AllReadyH.cons (o := ⟨some 53, _, _, _, _, _⟩) rfl (fun K hK => ?_) AllReadyH.nil
          go_simp
          ((with_reducible refine (clMakeV (some ⟨g9, 0, none⟩) (l.length + 1) cap9 (l ++ [s]) ((Cl.make l).part s) (make_snoc l s) _ hI9).mono ?_))
          rintro e w3 ⟨rfl, hb3⟩
          have hS := hS.step hb3 rfl
          have hB := below_step hB hb3 rfl rfl rfl rfl
          (try have hI := IsSets.step hI hb3 rfl)
          have hz := Nat.le_trans hz hb3.size
          (try have h4 := At.step h4 hb3 rfl)
          (try have h8 := At.step h8 hb3 rfl)
          (try have h6 := SetsRow.step h6 hb3 rfl)
          clear hb3
          try dsimp only
          refine hK.out _ _ ?_ (fun hHeld => ?_)
          · exact hS
          clear hK K
          try simp only [Act.put, List.setIfInBounds_toArray, List.set_cons_zero, List.set_cons_succ]
          refine wpAnyH_take (i := 11) (oi := ⟨some 54, _, _, _, _, _⟩) (v := ?_) rfl (by kernel_rfl) (by kernel_rfl) (by kernel_rfl) (fun _ _ _ h => h) (Or.inl ⟨by rfl, ?_⟩) (by exact hHeld) ?_
          rotate_left
          · (intro w hSw; (try dsimp only at hSw); go_simp; try (with_reducible rfl))
          simp only [Act.put, List.setIfInBounds_toArray, List.set_cons_zero, List.set_cons_succ]
          refine wpAnyH_take (i := 12) (oi := ⟨some 6, _, _, _, _, _⟩) (v := ?_) rfl (by kernel_rfl) (by kernel_rfl) (by kernel_rfl) (fun _ _ _ h => h) (Or.inl ⟨by rfl, ?_⟩) (by exact hHeld) ?_
          rotate_left
          · (intro w hSw; (try dsimp only at hSw); go_simp; try (with_reducible rfl))
          simp only [Act.put, List.setIfInBounds_toArray, List.set_cons_zero, List.set_cons_succ]
          refine wpAnyH_done (by kernel_rfl) ?_ _
          refine NoPanic.normal ?_
          go_wp2_with fail
          go_ret
          exact ⟨rfl, hB⟩
        refine AllReadyH.cons (o := ⟨some 51, _, _, _, _, _⟩) rfl (fun K hK => ?_) AllReadyH.nil
        · refine step_slice1 rfl _ s rfl rfl (fun g8 w3 h8n hb3 hg8 => ?_)
          (try have hne : g4 ≠ g8 := Nat.ne_of_lt (Nat.lt_of_lt_of_le (At.lt h4) hg8))
          clear hg8
          have hS := hS.step hb3 rfl
          have hB := below_step hB hb3 rfl rfl rfl rfl
          (try have hI := IsSets.step hI hb3 rfl)
          have hz := Nat.le_trans hz hb3.size
          (try have h4 := At.step h4 hb3 rfl)
          (try have h8 := At.step h8 hb3 rfl)
          (try have h6 := SetsRow.step h6 hb3 rfl)
          clear hb3
          try dsimp only
          have h8 := h8n
          clear h8n
          refine hK.out _ _ ?_ (fun hHeld => ?_)
          · exact hS
          clear hK K
          try simp only [Act.put, List.setIfInBounds_toArray, List.set_cons_zero, List.set_cons_succ]
          refine wpAnyH_ready (rs := [6]) (by kernel_rfl) (by simp) ?_
          refine AllReadyH.cons (o := ⟨some 49, _, _, _, _, _⟩) rfl (fun K hK => ?_) AllReadyH.nil
          refine step_append_any rfl _ _ 22 rfl _ _ rfl rfl (append_sets _ B0 g4 A n c l _ h4 hg4b hz hI hn) ?_
          rintro v6 w3 ⟨h6, hgr⟩
          have hS : SetAt w3 w.heap.size 33 s := At.grown hS hgr (by intro e; injection e with e; omega)
          have hB := below_grown hB (Nat.le_trans hWB hz) hgr (fun k hk => by injection hk with hk; omega)
          (try have h8 := At.grown h8 hgr (by intro e; injection e with e; exact hne e.symm))
          have hz := Nat.le_trans hz hgr.size
          clear hI h4 hgr
          refine hK.out _ _ ?_ (fun hHeld => ?_)
          · exact hS
          clear hK K
          try simp only [Act.put, List.setIfInBounds_toArray, List.set_cons_zero, List.set_cons_succ]
          refine wpAnyH_ready (rs := [9]) (by kernel_rfl) (by simp) ?_
          refine AllReadyH.cons (o := ⟨some 52, _, _, _, _, _⟩) rfl (fun K hK => ?_) AllReadyH.nil
          refine step_append_any rfl _ _ 22 rfl _ _ rfl rfl (append_set _ B0 g8 v6 l s _ h6 h8 hz hl30 hok hs) ?_
          rintro v9 w3 ⟨⟨g9, cap9, rfl, hI9⟩, hgr⟩
          have hrow : ∀ k, v6.ownBlock = some k → B0 ≤ k := fun k hk => (World.ownsRow.lt h6 k hk).1
          have hS : SetAt w3 w.heap.size 33 s := At.grown hS hgr (fun e => by have := hrow _ e.symm; omega)
          have hB := below_grown hB (Nat.le_trans hWB hz) hgr (fun k hk => Nat.le_trans hWB (hrow k hk))
          have hz := Nat.le_trans hz hgr.size
          clear h6 h8 hgr hrow
          refine hK.out _ _ ?_ (fun hHeld => ?_)
          · exact hS
          clear hK K
          try simp only [Act.put, List.setIfInBounds_toArray, List.set_cons_zero, List.set_cons_succ]
          refine wpAnyH_ready (rs := [10]) (by kernel_rfl) (by simp) ?_
          refine AllReadyH.cons (o := ⟨some 53, _, _, _, _, _⟩) rfl (fun K hK => ?_) AllReadyH.nil
          go_simp
          ((with_reducible refine (clMakeV (some ⟨g9, 0, none⟩) (l.length + 1) cap9 (l ++ [s]) ((Cl.make l).part s) (make_snoc l s) _ hI9).mono ?_))
          rintro e w3 ⟨rfl, hb3⟩
          have hS := hS.step hb3 rfl
          have hB := below_step hB hb3 rfl rfl rfl rfl
          (try have hI := IsSets.step hI hb3 rfl)
          have hz := Nat.le_trans hz hb3.size
          (try have h4 := At.step h4 hb3 rfl)
          (try have h8 := At.step h8 hb3 rfl)
          (try have h6 := SetsRow.step h6 hb3 rfl)
          clear hb3
          try dsimp only
          refine hK.out _ _ ?_ (fun hHeld => ?_)
          · exact hS
          clear hK K
          try simp only [Act.put, List.setIfInBounds_toArray, List.set_cons_zero, List.set_cons_succ]
          refine wpAnyH_take (i := 11) (oi := ⟨some 54, _, _, _, _, _⟩) (v := ?_) rfl (by kernel_rfl) (by kernel_rfl) (by kernel_rfl) (fun _ _ _ h => h) (Or.inl ⟨by rfl, ?_⟩) (by exact hHeld) ?_
          rotate_left
          · (intro w hSw; (try dsimp only at hSw); go_simp; try (with_reducible rfl))
          simp only [Act.put, List.setIfInBounds_toArray, List.set_cons_zero, List.set_cons_succ]
          refine wpAnyH_take (i := 12) (oi := ⟨some 6, _, _, _, _, _⟩) (v := ?_) rfl (by kernel_rfl) (by kernel_rfl) (by kernel_rfl) (fun _ _ _ h => h) (Or.inl ⟨by rfl, ?_⟩) (by exact hHeld) ?_
          rotate_left
          · (intro w hSw; (try dsimp only at hSw); go_simp; try (with_reducible rfl))
          simp only [Act.put, List.setIfInBounds_toArray, List.set_cons_zero, List.set_cons_succ]
          refine wpAnyH_done (by kernel_rfl) ?_ _
          refine NoPanic.normal ?_
          go_wp2_with fail
          go_ret
          exact ⟨rfl, hB⟩
      refine AllReadyH.cons (o := ⟨some 51, _, _, _, _, _⟩) rfl (fun K hK => ?_) AllReadyH.nil
      · refine step_slice1 rfl _ s rfl rfl (fun g8 w3 h8n hb3 hg8 => ?_)
        (try have hne : g4 ≠ g8 := Nat.ne_of_lt (Nat.lt_of_lt_of_le (At.lt h4) hg8))
        clear hg8
        have hS := hS.step hb3 rfl
        have hB := below_step hB hb3 rfl rfl rfl rfl
        (try have hI := IsSets.step hI hb3 rfl)
        have hz := Nat.le_trans hz hb3.size
        (try have h4 := At.step h4 hb3 rfl)
        (try have h8 := At.step h8 hb3 rfl)
        (try have h6 := SetsRow.step h6 hb3 rfl)
        clear hb3
        try dsimp only
        have h8 := h8n
        clear h8n
        refine hK.out _ _ ?_ (fun hHeld => ?_)
        · exact hS
        clear hK K
        try simp only [Act.put, List.setIfInBounds_toArray, List.set_cons_zero, List.set_cons_succ]
        refine wpAnyH_ready (rs := [4]) (by kernel_rfl) (by simp) ?_
        refine AllReadyH.cons (o := ⟨some 47, _, _, _, _, _⟩) rfl (fun K hK => ?_) AllReadyH.nil
        refine step_slice0 rfl rfl (fun g4 w3 h4n hb3 hg4 => ?_)
        have hg4b : B0 ≤ g4 := Nat.le_trans hz hg4
        (try have hne : g4 ≠ g8 := Nat.ne_of_gt (Nat.lt_of_lt_of_le (At.lt h8) hg4))
        clear hg4
        have hS := hS.step hb3 rfl
        have hB := below_step hB hb3 rfl rfl rfl rfl
        (try have hI := IsSets.step hI hb3 rfl)
        have hz := Nat.le_trans hz hb3.size
        (try have h4 := At.step h4 hb3 rfl)
        (try have h8 := At.step h8 hb3 rfl)
        (try have h6 := SetsRow.step h6 hb3 rfl)
        clear hb3
        try dsimp only
        have h4 := h4n
        clear h4n
        refine hK.out _ _ ?_ (fun hHeld => ?_)
        · exact hS
        clear hK K
        try simp only [Act.put, List.setIfInBounds_toArray, List.set_cons_zero, List.set_cons_succ]
        refine wpAnyH_ready (rs := [6]) (by kernel_rfl) (by simp) ?_
        refine AllReadyH.cons (o := ⟨some 49, _, _, _, _, _⟩) rfl (fun K hK => ?_) AllReadyH.nil
        refine step_append_any rfl _ _ 22 rfl _ _ rfl rfl (append_sets _ B0 g4 A n c l _ h4 hg4b hz hI hn) ?_
        rintro v6 w3 ⟨h6, hgr⟩
        have hS : SetAt w3 w.heap.size 33 s := At.grown hS hgr (by intro e; injection e with e; omega)
        have hB := below_grown hB (Nat.le_trans hWB hz) hgr (fun k hk => by injection hk with hk; omega)
        (try have h8 := At.grown h8 hgr (by intro e; injection e with e; exact hne e.symm))
        have hz := Nat.le_trans hz hgr.size
        clear hI h4 hgr
        refine hK.out _ _ ?_ (fun hHeld => ?_)
        · exact hS
        clear hK K
        try simp only [Act.put, List.setIfInBounds_toArray, List.set_cons_zero, List.set_cons_succ]
        refine wpAnyH_ready (rs := [9]) (by kernel_rfl) (by simp) ?_
        refine AllReadyH.cons (o := ⟨some 52, _, _, _, _, _⟩) rfl (fun K hK => ?_) AllReadyH.nil
        refine step_append_any rfl _ _ 22 rfl _ _ rfl rfl (append_set _ B0 g8 v6 l s _ h6 h8 hz hl30 hok hs) ?_
        rintro v9 w3 ⟨⟨g9, cap9, rfl, hI9⟩, hgr⟩
        have hrow : ∀ k, v6.ownBlock = some k → B0 ≤ k := fun k hk => (World.ownsRow.lt h6 k hk).1
        have hS : SetAt w3 w.heap.size 33 s := At.grown hS hgr (fun e => by have := hrow _ e.symm; omega)
        have hB := below_grown hB (Nat.le_trans hWB hz) hgr (fun k hk => Nat.le_trans hWB (hrow k hk))
        have hz := Nat.le_trans hz hgr.size
        clear h6 h8 hgr hrow
        refine hK.out _ _ ?_ (fun hHeld => ?_)
        · exact hS
        clear hK K
        try simp only [Act.put, List.setIfInBounds_toArray, List.set_cons_zero, List.set_cons_succ]
        refine wpAnyH_ready (rs := [10]) (by kernel_rfl) (by simp) ?_
        refine AllReadyH.cons (o := ⟨some 53, _, _, _, _, _⟩) rfl (fun K hK => ?_) AllReadyH.nil
        go_simp
        ((with_reducible refine (clMakeV (some ⟨g9, 0, none⟩) (l.length + 1) cap9 (l ++ [s]) ((Cl.make l).part s) (make_snoc l s) _ hI9).mono ?_))
        rintro e w3 ⟨rfl, hb3⟩
        have hS := hS.step hb3 rfl
        have hB := below_step hB hb3 rfl rfl rfl rfl
        (try have hI := IsSets.step hI hb3 rfl)
        have hz := Nat.le_trans hz hb3.size
        (try have h4 := At.step h4 hb3 rfl)
        (try have h8 := At.step h8 hb3 rfl)
        (try have h6 := SetsRow.step h6 hb3 rfl)
        clear hb3
        try dsimp only
        refine hK.out _ _ ?_ (fun hHeld => ?_)
        · exact hS
        clear hK K
        try simp only [Act.put, List.setIfInBounds_toArray, List.set_cons_zero, List.set_cons_succ]
        refine wpAnyH_take (i := 11) (oi := ⟨some 54, _, _, _, _, _⟩) (v := ?_) rfl (by kernel_rfl) (by kernel_rfl) (by kernel_rfl) (fun _ _ _ h => h) (Or.inl ⟨by rfl, ?_⟩) (by exact hHeld) ?_
        rotate_left
        · (intro w hSw; (try dsimp only at hSw); go_simp; try (with_reducible rfl))
        simp only [Act.put, List.setIfInBounds_toArray, List.set_cons_zero, List.set_cons_succ]
        refine wpAnyH_take (i := 12) (oi := ⟨some 6, _, _, _, _, _⟩) (v := ?_) rfl (by kernel_rfl) (by kernel_rfl) (by kernel_rfl) (fun _ _ _ h => h) (Or.inl ⟨by rfl, ?_⟩) (by exact hHeld) ?_
        rotate_left
        · (intro w hSw; (try dsimp only at hSw); go_simp; try (with_reducible rfl))
        simp only [Act.put, List.setIfInBounds_toArray, List.set_cons_zero, List.set_cons_succ]
        refine wpAnyH_done (by kernel_rfl) ?_ _
        refine NoPanic.normal ?_
        go_wp2_with fail
        go_ret
        exact ⟨rfl, hB⟩
    refine AllReadyH.cons (o := ⟨some 47, _, _, _, _, _⟩) rfl (fun K hK => ?_) ?_
    · refine step_slice0 rfl rfl (fun g4 w3 h4n hb3 hg4 => ?_)
      have hg4b : B0 ≤ g4 := Nat.le_trans hz hg4
      (try have hne : g4 ≠ g8 := Nat.ne_of_gt (Nat.lt_of_lt_of_le (At.lt h8) hg4))
      clear hg4
      have hS := hS.step hb3 rfl
      have hB := below_step hB hb3 rfl rfl rfl rfl
      (try have hI := IsSets.step hI hb3 rfl)
      have hz := Nat.le_trans hz hb3.size
      (try have h4 := At.step h4 hb3 rfl)
      (try have h8 := At.step h8 hb3 rfl)
      (try have h6 := SetsRow.step h6 hb3 rfl)
      clear hb3
      try dsimp only
      have h4 := h4n
      clear h4n
      refine hK.out _ _ ?_ (fun hHeld => ?_)
      · exact hS
      clear hK K
      try simp only [Act.put, List.setIfInBounds_toArray, List.set_cons_zero, List.set_cons_succ]
      refine wpAnyH_ready (rs := [3, 8]) (by kernel_rfl) (by simp) ?_
      refine AllReadyH.cons (o := ⟨some 46, _, _, _, _, _⟩) rfl (fun K hK => ?_) ?_
      · go_simp
        ((with_reducible refine (clRefineV (Cl.make l) (make_ok l) s hs ((Cl.make l).part s) (refine_yes (make_right l)) _).mono ?_))
        rintro e w3 ⟨rfl, hb3⟩
        have hS := hS.step hb3 rfl
        have hB := below_step hB hb3 rfl rfl rfl rfl
        (try have hI := IsSets.step hI hb3 rfl)
        have hz := Nat.le_trans hz hb3.size
        (try have h4 := At.step h4 hb3 rfl)
        (try have h8 := At.step h8 hb3 rfl)
        (try have h6 := SetsRow.step h6 hb3 rfl)
        clear hb3
        try dsimp only
        refine hK.out _ _ ?_ (fun hHeld => ?_)
        · exact hS
        clear hK K
        try simp only [Act.put, List.setIfInBounds_toArray, List.set_cons_zero, List.set_cons_succ]
        refine wpAnyH_ready (rs := [6, 8]) (by kernel_rfl) (by simp) ?_
        refine AllReadyH.cons (o := ⟨some 49, _, _, _, _, _⟩) rfl (fun K hK => ?_) ?_
        · refine step_append_any rfl _ _ 22 rfl _ _ rfl rfl (append_sets _ B0 g4 A n c l _ h4 hg4b hz hI hn) ?_
          rintro v6 w3 ⟨h6, hgr⟩
          have hS : SetAt w3 w.heap.size 33 s := At.grown hS hgr (by intro e; injection e with e; omega)
          have hB := below_grown hB (Nat.le_trans hWB hz) hgr (fun k hk => by injection hk with hk; omega)
          (try have h8 := At.grown h8 hgr (by intro e; injection e with e; exact hne e.symm))
          have hz := Nat.le_trans hz hgr.size
          clear hI h4 hgr
          refine hK.out _ _ ?_ (fun hHeld => ?_)
          · exact hS
          clear hK K
          try simp only [Act.put, List.setIfInBounds_toArray, List.set_cons_zero, List.set_cons_succ]
          refine wpAnyH_ready (rs := [8]) (by kernel_rfl) (by simp) ?_
          refine AllReadyH.cons (o := ⟨some 51, _, _, _, _, _⟩) rfl (fun K hK => ?_) AllReadyH.nil
          refine step_slice1 rfl _ s rfl rfl (fun g8 w3 h8n hb3 hg8 => ?_)
          (try have hne : g4 ≠ g8 := Nat.ne_of_lt (Nat.lt_of_lt_of_le (At.lt h4) hg8))
          clear hg8
          have hS := hS.step hb3 rfl
          have hB := below_step hB hb3 rfl rfl rfl rfl
          (try have hI := IsSets.step hI hb3 rfl)
          have hz := Nat.le_trans hz hb3.size
          (try have h4 := At.step h4 hb3 rfl)
          (try have h8 := At.step h8 hb3 rfl)
          (try have h6 := SetsRow.step h6 hb3 rfl)
          clear hb3
          try dsimp only
          have h8 := h8n
          clear h8n
          refine hK.out _ _ ?_ (fun hHeld => ?_)
          · exact hS
          clear hK K
          try simp only [Act.put, List.setIfInBounds_toArray, List.set_cons_zero, List.set_cons_succ]
          refine wpAnyH_ready (rs := [9]) (by kernel_rfl) (by simp) ?_
          refine AllReadyH.cons (o := ⟨some 52, _, _, _, _, _⟩) rfl (fun K hK => ?_) AllReadyH.nil
          refine step_append_any rfl _ _ 22 rfl _ _ rfl rfl (append_set _ B0 g8 v6 l s _ h6 h8 hz hl30 hok hs) ?_
          rintro v9 w3 ⟨⟨g9, cap9, rfl, hI9⟩, hgr⟩
          have hrow : ∀ k, v6.ownBlock = some k → B0 ≤ k := fun k hk => (World.ownsRow.lt h6 k hk).1
          have hS : SetAt w3 w.heap.size 33 s := At.grown hS hgr (fun e => by have := hrow _ e.symm; omega)
          have hB := below_grown hB (Nat.le_trans hWB hz) hgr (fun k hk => Nat.le_trans hWB (hrow k hk))
          have hz := Nat.le_trans hz hgr.size
          clear h6 h8 hgr hrow
          refine hK.out _ _ ?_ (fun hHeld => ?_)
          · exact hS
          clear hK K
          try simp only [Act.put, List.setIfInBounds_toArray, List.set_cons_zero, List.set_cons_succ]
          refine wpAnyH_ready (rs := [10]) (by kernel_rfl) (by simp) ?_
          refine AllReadyH.cons (o := ⟨some 53, _, _, _, _, _⟩) rfl (fun K hK => ?_) AllReadyH.nil
          go_simp
          ((with_reducible refine (clMakeV (some ⟨g9, 0, none⟩) (l.length + 1) cap9 (l ++ [s]) ((Cl.make l).part s) (make_snoc l s) _ hI9).mono ?_))
          rintro e w3 ⟨rfl, hb3⟩
          have hS := hS.step hb3 rfl
          have hB := below_step hB hb3 rfl rfl rfl rfl
          (try have hI := IsSets.step hI hb3 rfl)
          have hz := Nat.le_trans hz hb3.size
          (try have h4 := At.step h4 hb3 rfl)
          (try have h8 := At.step h8 hb3 rfl)
          (try have h6 := SetsRow.step h6 hb3 rfl)
          clear hb3
          try dsimp only
          refine hK.out _ _ ?_ (fun hHeld => ?_)
          · exact hS
          clear hK K
          try simp only [Act.put, List.setIfInBounds_toArray, List.set_cons_zero, List.set_cons_succ]
          refine wpAnyH_take (i := 11) (oi := ⟨some 54, _, _, _, _, _⟩) (v := ?_) rfl (by kernel_rfl) (by kernel_rfl) (by kernel_rfl) (fun _ _ _ h => h) (Or.inl ⟨by rfl, ?_⟩) (by exact hHeld) ?_
          rotate_left
          · (intro w hSw; (try dsimp only at hSw); go_simp; try (with_reducible rfl))
          simp only [Act.put, List.setIfInBounds_toArray, List.set_cons_zero, List.set_cons_succ]
          refine wpAnyH_take (i := 12) (oi := ⟨some 6, _, _, _, _, _⟩) (v := ?_) rfl (by kernel_rfl) (by kernel_rfl) (by kernel_rfl) (fun _ _ _ h => h) (Or.inl ⟨by rfl, ?_⟩) (by exact hHeld) ?_
          rotate_left
          · (intro w hSw; (try dsimp only at hSw); go_simp; try (with_reducible rfl))
          simp only [Act.put, List.setIfInBounds_toArray, List.set_cons_zero, List.set_cons_succ]
          refine wpAnyH_done (by kernel_rfl) ?_ _
          refine NoPanic.normal ?_
          go_wp2_with fail
          go_ret
          exact ⟨rfl, hB⟩
        refine AllReadyH.cons (o := ⟨some 51, _, _, _, _, _⟩) rfl (fun K hK => ?_) AllReadyH.nil
        · refine step_slice1 rfl _ s rfl rfl (fun g8 w3 h8n hb3 hg8 => ?_)
          (try have hne : g4 ≠ g8 := Nat.ne_of_lt (Nat.lt_of_lt_of_le (At.lt h4) hg8))
          clear hg8
          have hS := hS.step hb3 rfl
          have hB := below_step hB hb3 rfl rfl rfl rfl
          (try have hI := IsSets.step hI hb3 rfl)
          have hz := Nat.le_trans hz hb3.size
          (try have h4 := At.step h4 hb3 rfl)
          (try have h8 := At.step h8 hb3 rfl)
          (try have h6 := SetsRow.step h6 hb3 rfl)
          clear hb3
          try dsimp only
          have h8 := h8n
          clear h8n
          refine hK.out _ _ ?_ (fun hHeld => ?_)
          · exact hS
          clear hK K
          try simp only [Act.put, List.setIfInBounds_toArray, List.set_cons_zero, List.set_cons_succ]
          refine wpAnyH_ready (rs := [6]) (by kernel_rfl) (by simp) ?_
          refine AllReadyH.cons (o := ⟨some 49, _, _, _, _, _⟩) rfl (fun K hK => ?_) AllReadyH.nil
          refine step_append_any rfl _ _ 22 rfl _ _ rfl rfl (append_sets _ B0 g4 A n c l _ h4 hg4b hz hI hn) ?_
          rintro v6 w3 ⟨h6, hgr⟩
          have hS : SetAt w3 w.heap.size 33 s := At.grown hS hgr (by intro e; injection e with e; omega)
          have hB := below_grown hB (Nat.le_trans hWB hz) hgr (fun k hk => by injection hk with hk; omega)
          (try have h8 := At.grown h8 hgr (by intro e; injection e with e; exact hne e.symm))
          have hz := Nat.le_trans hz hgr.size
          clear hI h4 hgr
          refine hK.out _ _ ?_ (fun hHeld => ?_)
          · exact hS
          clear hK K
          try simp only [Act.put, List.setIfInBounds_toArray, List.set_cons_zero, List.set_cons_succ]
          refine wpAnyH_ready (rs := [9]) (by kernel_rfl) (by simp) ?_
          refine AllReadyH.cons (o := ⟨some 52, _, _, _, _, _⟩) rfl (fun K hK => ?_) AllReadyH.nil
          refine step_append_any rfl _ _ 22 rfl _ _ rfl rfl (append_set _ B0 g8 v6 l s _ h6 h8 hz hl30 hok hs) ?_
          rintro v9 w3 ⟨⟨g9, cap9, rfl, hI9⟩, hgr⟩
          have hrow : ∀ k, v6.ownBlock = some k → B0 ≤ k := fun k hk => (World.ownsRow.lt h6 k hk).1
          have hS : SetAt w3 w.heap.size 33 s := At.grown hS hgr (fun e => by have := hrow _ e.symm; omega)
          have hB := below_grown hB (Nat.le_trans hWB hz) hgr (fun k hk => Nat.le_trans hWB (hrow k hk))
          have hz := Nat.le_trans hz hgr.size
          clear h6 h8 hgr hrow
          refine hK.out _ _ ?_ (fun hHeld => ?_)
          · exact hS
          clear hK K
          try simp only [Act.put, List.setIfInBounds_toArray, List.set_cons_zero, List.set_cons_succ]
          refine wpAnyH_ready (rs := [10]) (by kernel_rfl) (by simp) ?_
          refine AllReadyH.cons (o := ⟨some 53, _, _, _, _, _⟩) rfl (fun K hK => ?_) AllReadyH.nil
          go_simp
          ((with_reducible refine (clMakeV (some ⟨g9, 0, none⟩) (l.length + 1) cap9 (l ++ [s]) ((Cl.make l).part s) (make_snoc l s) _ hI9).mono ?_))
          rintro e w3 ⟨rfl, hb3⟩
          have hS := hS.step hb3 rfl
          have hB := below_step hB hb3 rfl rfl rfl rfl
          (try have hI := IsSets.step hI hb3 rfl)
          have hz := Nat.le_trans hz hb3.size
          (try have h4 := At.step h4 hb3 rfl)
          (try have h8 := At.step h8 hb3 rfl)
          (try have h6 := SetsRow.step h6 hb3 rfl)
          clear hb3
          try dsimp only
          refine hK.out _ _ ?_ (fun hHeld => ?_)
          · exact hS
          clear hK K
          try simp only [Act.put, List.setIfInBounds_toArray, List.set_cons_zero, List.set_cons_succ]
          refine wpAnyH_take (i := 11) (oi := ⟨some 54, _, _, _, _, _⟩) (v := ?_) rfl (by kernel_rfl) (by kernel_rfl) (by kernel_rfl) (fun _ _ _ h => h) (Or.inl ⟨by rfl, ?_⟩) (by exact hHeld) ?_
          rotate_left
          · (intro w hSw; (try dsimp only at hSw); go_simp; try (with_reducible rfl))
          simp only [Act.put, List.setIfInBounds_toArray, List.set_cons_zero, List.set_cons_succ]
          refine wpAnyH_take (i := 12) (oi := ⟨some 6, _, _, _, _, _⟩) (v := ?_) rfl (by kernel_rfl) (by kernel_rfl) (by kernel_rfl) (fun _ _ _ h => h) (Or.inl ⟨by rfl, ?_⟩) (by exact hHeld) ?_
          rotate_left
          · (intro w hSw; (try dsimp only at hSw); go_simp; try (with_reducible rfl))
          simp only [Act.put, List.setIfInBounds_toArray, List.set_cons_zero, List.set_cons_succ]
          refine wpAnyH_done (by kernel_rfl) ?_ _
          refine NoPanic.normal ?_
          go_wp2_with fail
          go_ret
          exact ⟨rfl, hB⟩
      refine AllReadyH.cons (o := ⟨some 51, _, _, _, _, _⟩) rfl (fun K hK => ?_) AllReadyH.nil
      · refine step_slice1 rfl _ s rfl rfl (fun g8 w3 h8n hb3 hg8 => ?_)
        (try have hne : g4 ≠ g8 := Nat.ne_of_lt (Nat.lt_of_lt_of_le (At.lt h4) hg8))
        clear hg8
        have hS := hS.step hb3 rfl
        have hB := below_step hB hb3 rfl rfl rfl rfl
        (try have hI := IsSets.step hI hb3 rfl)
        have hz := Nat.le_trans hz hb3.size
        (try have h4 := At.step h4 hb3 rfl)
        (try have h8 := At.step h8 hb3 rfl)
        (try have h6 := SetsRow.step h6 hb3 rfl)
        clear hb3
        try dsimp only
        have h8 := h8n
        clear h8n
        refine hK.out _ _ ?_ (fun hHeld => ?_)
        · exact hS
        clear hK K
        try simp only [Act.put, List.setIfInBounds_toArray, List.set_cons_zero, List.set_cons_succ]
        refine wpAnyH_ready (rs := [3]) (by kernel_rfl) (by simp) ?_
        refine AllReadyH.cons (o := ⟨some 46, _, _, _, _, _⟩) rfl (fun K hK => ?_) AllReadyH.nil
        go_simp
        ((with_reducible refine (clRefineV (Cl.make l) (make_ok l) s hs ((Cl.make l).part s) (refine_yes (make_right l)) _).mono ?_))
        rintro e w3 ⟨rfl, hb3⟩
        have hS := hS.step hb3 rfl
        have hB := below_step hB hb3 rfl rfl rfl rfl
        (try have hI := IsSets.step hI hb3 rfl)
        have hz := Nat.le_trans hz hb3.size
        (try have h4 := At.step h4 hb3 rfl)
        (try have h8 := At.step h8 hb3 rfl)
        (try have h6 := SetsRow.step h6 hb3 rfl)
        clear hb3
        try dsimp only
        refine hK.out _ _ ?_ (fun hHeld => ?_)
        · exact hS
        clear hK K
        try simp only [Act.put, List.setIfInBounds_toArray, List.set_cons_zero, List.set_cons_succ]
        refine wpAnyH_ready (rs := [6]) (by kernel_rfl) (by simp) ?_
        refine AllReadyH.cons (o := ⟨some 49, _, _, _, _, _⟩) rfl (fun K hK => ?_) AllReadyH.nil
        refine step_append_any rfl _ _ 22 rfl _ _ rfl rfl (append_sets _ B0 g4 A n c l _ h4 hg4b hz hI hn) ?_
        rintro v6 w3 ⟨h6, hgr⟩
        have hS : SetAt w3 w.heap.size 33 s := At.grown hS hgr (by intro e; injection e with e; omega)
        have hB := below_grown hB (Nat.le_trans hWB hz) hgr (fun k hk => by injection hk with hk; omega)
        (try have h8 := At.grown h8 hgr (by intro e; injection e with e; exact hne e.symm))
        have hz := Nat.le_trans hz hgr.size
        clear hI h4 hgr
        refine hK.out _ _ ?_ (fun hHeld => ?_)
        · exact hS
        clear hK K
        try simp only [Act.put, List.setIfInBounds_toArray, List.set_cons_zero, List.set_cons_succ]
        refine wpAnyH_ready (rs := [9]) (by kernel_rfl) (by simp) ?_
        refine AllReadyH.cons (o := ⟨some 52, _, _, _, _, _⟩) rfl (fun K hK => ?_) AllReadyH.nil
        refine step_append_any rfl _ _ 22 rfl _ _ rfl rfl (append_set _ B0 g8 v6 l s _ h6 h8 hz hl30 hok hs) ?_
        rintro v9 w3 ⟨⟨g9, cap9, rfl, hI9⟩, hgr⟩
        have hrow : ∀ k, v6.ownBlock = some k → B0 ≤ k := fun k hk => (World.ownsRow.lt h6 k hk).1
        have hS : SetAt w3 w.heap.size 33 s := At.grown hS hgr (fun e => by have := hrow _ e.symm; omega)
        have hB := below_grown hB (Nat.le_trans hWB hz) hgr (fun k hk => Nat.le_trans hWB (hrow k hk))
        have hz := Nat.le_trans hz hgr.size
        clear h6 h8 hgr hrow
        refine hK.out _ _ ?_ (fun hHeld => ?_)
        · exact hS
        clear hK K
        try simp only [Act.put, List.setIfInBounds_toArray, List.set_cons_zero, List.set_cons_succ]
        refine wpAnyH_ready (rs := [10]) (by kernel_rfl) (by simp) ?_
        refine AllReadyH.cons (o := ⟨some 53, _, _, _, _, _⟩) rfl (fun K hK => ?_) AllReadyH.nil
        go_simp
        ((with_reducible refine (clMakeV (some ⟨g9, 0, none⟩) (l.length + 1) cap9 (l ++ [s]) ((Cl.make l).part s) (make_snoc l s) _ hI9).mono ?_))
        rintro e w3 ⟨rfl, hb3⟩
        have hS := hS.step hb3 rfl
        have hB := below_step hB hb3 rfl rfl rfl rfl
        (try have hI := IsSets.step hI hb3 rfl)
        have hz := Nat.le_trans hz hb3.size
        (try have h4 := At.step h4 hb3 rfl)
        (try have h8 := At.step h8 hb3 rfl)
        (try have h6 := SetsRow.step h6 hb3 rfl)
        clear hb3
        try dsimp only
        refine hK.out _ _ ?_ (fun hHeld => ?_)
        · exact hS
        clear hK K
        try simp only [Act.put, List.setIfInBounds_toArray, List.set_cons_zero, List.set_cons_succ]
        refine wpAnyH_take (i := 11) (oi := ⟨some 54, _, _, _, _, _⟩) (v := ?_) rfl (by kernel_rfl) (by kernel_rfl) (by kernel_rfl) (fun _ _ _ h => h) (Or.inl ⟨by rfl, ?_⟩) (by exact hHeld) ?_
        rotate_left
        · (intro w hSw; (try dsimp only at hSw); go_simp; try (with_reducible rfl))
        simp only [Act.put, List.setIfInBounds_toArray, List.set_cons_zero, List.set_cons_succ]
        refine wpAnyH_take (i := 12) (oi := ⟨some 6, _, _, _, _, _⟩) (v := ?_) rfl (by kernel_rfl) (by kernel_rfl) (by kernel_rfl) (fun _ _ _ h => h) (Or.inl ⟨by rfl, ?_⟩) (by exact hHeld) ?_
        rotate_left
        · (intro w hSw; (try dsimp only at hSw); go_simp; try (with_reducible rfl))
        simp only [Act.put, List.setIfInBounds_toArray, List.set_cons_zero, List.set_cons_succ]
        refine wpAnyH_done (by kernel_rfl) ?_ _
        refine NoPanic.normal ?_
        go_wp2_with fail
        go_ret
        exact ⟨rfl, hB⟩
    refine AllReadyH.cons (o := ⟨some 51, _, _, _, _, _⟩) rfl (fun K hK => ?_) AllReadyH.nil
    · refine step_slice1 rfl _ s rfl rfl (fun g8 w3 h8n hb3 hg8 => ?_)
      (try have hne : g4 ≠ g8 := Nat.ne_of_lt (Nat.lt_of_lt_of_le (At.lt h4) hg8))
      clear hg8
      have hS := hS.step hb3 rfl
      have hB := below_step hB hb3 rfl rfl rfl rfl
      (try have hI := IsSets.step hI hb3 rfl)
      have hz := Nat.le_trans hz hb3.size
      (try have h4 := At.step h4 hb3 rfl)
      (try have h8 := At.step h8 hb3 rfl)
      (try have h6 := SetsRow.step h6 hb3 rfl)
      clear hb3
      try dsimp only
      have h8 := h8n
      clear h8n
      refine hK.out _ _ ?_ (fun hHeld => ?_)
      · exact hS
      clear hK K
      try simp only [Act.put, List.setIfInBounds_toArray, List.set_cons_zero, List.set_cons_succ]
      refine wpAnyH_ready (rs := [3, 4]) (by kernel_rfl) (by simp) ?_
      refine AllReadyH.cons (o := ⟨some 46, _, _, _, _, _⟩) rfl (fun K hK => ?_) ?_
      · go_simp
        ((with_reducible refine (clRefineV (Cl.make l) (make_ok l) s hs ((Cl.make l).part s) (refine_yes (make_right l)) _).mono ?_))
        rintro e w3 ⟨rfl, hb3⟩
        have hS := hS.step hb3 rfl
        have hB := below_step hB hb3 rfl rfl rfl rfl
        (try have hI := IsSets.step hI hb3 rfl)
        have hz := Nat.le_trans hz hb3.size
        (try have h4 := At.step h4 hb3 rfl)
        (try have h8 := At.step h8 hb3 rfl)
        (try have h6 := SetsRow.step h6 hb3 rfl)
        clear hb3
        try dsimp only
        refine hK.out _ _ ?_ (fun hHeld => ?_)
        · exact hS
        clear hK K
        try simp only [Act.put, List.setIfInBounds_toArray, List.set_cons_zero, List.set_cons_succ]
        refine wpAnyH_ready (rs := [4]) (by kernel_rfl) (by simp) ?_
        refine AllReadyH.cons (o := ⟨some 47, _, _, _, _, _⟩) rfl (fun K hK => ?_) AllReadyH.nil
        refine step_slice0 rfl rfl (fun g4 w3 h4n hb3 hg4 => ?_)
        have hg4b : B0 ≤ g4 := Nat.le_trans hz hg4
        (try have hne : g4 ≠ g8 := Nat.ne_of_gt (Nat.lt_of_lt_of_le (At.lt h8) hg4))
        clear hg4
        have hS := hS.step hb3 rfl
        have hB := below_step hB hb3 rfl rfl rfl rfl
        (try have hI := IsSets.step hI hb3 rfl)
        have hz := Nat.le_trans hz hb3.size
        (try have h4 := At.step h4 hb3 rfl)
        (try have h8 := At.step h8 hb3 rfl)
        (try have h6 := SetsRow.step h6 hb3 rfl)
        clear hb3
        try dsimp only
        have h4 := h4n
        clear h4n
        refine hK.out _ _ ?_ (fun hHeld => ?_)
        · exact hS
        clear hK K
        try simp only [Act.put, List.setIfInBounds_toArray, List.set_cons_zero, List.set_cons_succ]
        refine wpAnyH_ready (rs := [6]) (by kernel_rfl) (by simp) ?_
        refine AllReadyH.cons (o := ⟨some 49, _, _, _, _, _⟩) rfl (fun K hK => ?_) AllReadyH.nil
        refine step_append_any rfl _ _ 22 rfl _ _ rfl rfl (append_sets _ B0 g4 A n c l _ h4 hg4b hz hI hn) ?_
        rintro v6 w3 ⟨h6, hgr⟩
        have hS : SetAt w3 w.heap.size 33 s := At.grown hS hgr (by intro e; injection e with e; omega)
        have hB := below_grown hB (Nat.le_trans hWB hz) hgr (fun k hk => by injection hk with hk; omega)
        (try have h8 := At.grown h8 hgr (by intro e; injection e with e; exact hne e.symm))
        have hz := Nat.le_trans hz hgr.size
        clear hI h4 hgr
        refine hK.out _ _ ?_ (fun hHeld => ?_)
        · exact hS
        clear hK K
        try simp only [Act.put, List.setIfInBounds_toArray, List.set_cons_zero, List.set_cons_succ]
        refine wpAnyH_ready (rs := [9]) (by kernel_rfl) (by simp) ?_
        refine AllReadyH.cons (o := ⟨some 52, _, _, _, _, _⟩) rfl (fun K hK => ?_) AllReadyH.nil
        refine step_append_any rfl _ _ 22 rfl _ _ rfl rfl (append_set _ B0 g8 v6 l s _ h6 h8 hz hl30 hok hs) ?_
        rintro v9 w3 ⟨⟨g9, cap9, rfl, hI9⟩, hgr⟩
        have hrow : ∀ k, v6.ownBlock = some k → B0 ≤ k := fun k hk => (World.ownsRow.lt h6 k hk).1
        have hS : SetAt w3 w.heap.size 33 s := At.grown hS hgr (fun e => by have := hrow _ e.symm; omega)
        have hB := below_grown hB (Nat.le_trans hWB hz) hgr (fun k hk => Nat.le_trans hWB (hrow k hk))
        have hz := Nat.le_trans hz hgr.size
        clear h6 h8 hgr hrow
        refine hK.out _ _ ?_ (fun hHeld => ?_)
        · exact hS
        clear hK K
        try simp only [Act.put, List.setIfInBounds_toArray, List.set_cons_zero, List.set_cons_succ]
        refine wpAnyH_ready (rs := [10]) (by kernel_rfl) (by simp) ?_
        refine AllReadyH.cons (o := ⟨some 53, _, _, _, _, _⟩) rfl (fun K hK => ?_) AllReadyH.nil
        go_simp
        ((with_reducible refine (clMakeV (some ⟨g9, 0, none⟩) (l.length + 1) cap9 (l ++ [s]) ((Cl.make l).part s) (make_snoc l s) _ hI9).mono ?_))
        rintro e w3 ⟨rfl, hb3⟩
        have hS := hS.step hb3 rfl
        have hB := below_step hB hb3 rfl rfl rfl rfl
        (try have hI := IsSets.step hI hb3 rfl)
        have hz := Nat.le_trans hz hb3.size
        (try have h4 := At.step h4 hb3 rfl)
        (try have h8 := At.step h8 hb3 rfl)
        (try have h6 := SetsRow.step h6 hb3 rfl)
        clear hb3
        try dsimp only
        refine hK.out _ _ ?_ (fun hHeld => ?_)
        · exact hS
        clear hK K
        try simp only [Act.put, List.setIfInBounds_toArray, List.set_cons_zero, List.set_cons_succ]
        refine wpAnyH_take (i := 11) (oi := ⟨some 54, _, _, _, _, _⟩) (v := ?_) rfl (by kernel_rfl) (by kernel_rfl) (by kernel_rfl) (fun _ _ _ h => h) (Or.inl ⟨by rfl, ?_⟩) (by exact hHeld) ?_
        rotate_left
        · (intro w hSw; (try dsimp only at hSw); go_simp; try (with_reducible rfl))
        simp only [Act.put, List.setIfInBounds_toArray, List.set_cons_zero, List.set_cons_succ]
        refine wpAnyH_take (i := 12) (oi := ⟨some 6, _, _, _, _, _⟩) (v := ?_) rfl (by kernel_rfl) (by kernel_rfl) (by kernel_rfl) (fun _ _ _ h => h) (Or.inl ⟨by rfl, ?_⟩) (by exact hHeld) ?_
        rotate_left
        · (intro w hSw; (try dsimp only at hSw); go_simp; try (with_reducible rfl))
        simp only [Act.put, List.setIfInBounds_toArray, List.set_cons_zero, List.set_cons_succ]
        refine wpAnyH_done (by kernel_rfl) ?_ _
        refine NoPanic.normal ?_
        go_wp2_with fail
        go_ret
        exact ⟨rfl, hB⟩
      refine AllReadyH.cons (o := ⟨some 47, _, _, _, _, _⟩) rfl (fun K hK => ?_) AllReadyH.nil
      · refine step_slice0 rfl rfl (fun g4 w3 h4n hb3 hg4 => ?_)
        have hg4b : B0 ≤ g4 := Nat.le_trans hz hg4
        (try have hne : g4 ≠ g8 := Nat.ne_of_gt (Nat.lt_of_lt_of_le (At.lt h8) hg4))
        clear hg4
        have hS := hS.step hb3 rfl
        have hB := below_step hB hb3 rfl rfl rfl rfl
        (try have hI := IsSets.step hI hb3 rfl)
        have hz := Nat.le_trans hz hb3.size
        (try have h4 := At.step h4 hb3 rfl)
        (try have h8 := At.step h8 hb3 rfl)
        (try have h6 := SetsRow.step h6 hb3 rfl)
        clear hb3
        try dsimp only
        have h4 := h4n
        clear h4n
        refine hK.out _ _ ?_ (fun hHeld => ?_)
        · exact hS
        clear hK K
        try simp only [Act.put, List.setIfInBounds_toArray, List.set_cons_zero, List.set_cons_succ]
        refine wpAnyH_ready (rs := [3]) (by kernel_rfl) (by simp) ?_
        refine AllReadyH.cons (o := ⟨some 46, _, _, _, _, _⟩) rfl (fun K hK => ?_) AllReadyH.nil
        go_simp
        ((with_reducible refine (clRefineV (Cl.make l) (make_ok l) s hs ((Cl.make l).part s) (refine_yes (make_right l)) _).mono ?_))
        rintro e w3 ⟨rfl, hb3⟩
        have hS := hS.step hb3 rfl
        have hB := below_step hB hb3 rfl rfl rfl rfl
        (try have hI := IsSets.step hI hb3 rfl)
        have hz := Nat.le_trans hz hb3.size
        (try have h4 := At.step h4 hb3 rfl)
        (try have h8 := At.step h8 hb3 rfl)
        (try have h6 := SetsRow.step h6 hb3 rfl)
        clear hb3
        try dsimp only
        refine hK.out _ _ ?_ (fun hHeld => ?_)
        · exact hS
        clear hK K
        try simp only [Act.put, List.setIfInBounds_toArray, List.set_cons_zero, List.set_cons_succ]
        refine wpAnyH_ready (rs := [6]) (by kernel_rfl) (by simp) ?_
        refine AllReadyH.cons (o := ⟨some 49, _, _, _, _, _⟩) rfl (fun K hK => ?_) AllReadyH.nil
        refine step_append_any rfl _ _ 22 rfl _ _ rfl rfl (append_sets _ B0 g4 A n c l _ h4 hg4b hz hI hn) ?_
        rintro v6 w3 ⟨h6, hgr⟩
        have hS : SetAt w3 w.heap.size 33 s := At.grown hS hgr (by intro e; injection e with e; omega)
        have hB := below_grown hB (Nat.le_trans hWB hz) hgr (fun k hk => by injection hk with hk; omega)
        (try have h8 := At.grown h8 hgr (by intro e; injection e with e; exact hne e.symm))
        have hz := Nat.le_trans hz hgr.size
        clear hI h4 hgr
        refine hK.out _ _ ?_ (fun hHeld => ?_)
        · exact hS
        clear hK K
        try simp only [Act.put, List.setIfInBounds_toArray, List.set_cons_zero, List.set_cons_succ]
        refine wpAnyH_ready (rs := [9]) (by kernel_rfl) (by simp) ?_
        refine AllReadyH.cons (o := ⟨some 52, _, _, _, _, _⟩) rfl (fun K hK => ?_) AllReadyH.nil
        refine step_append_any rfl _ _ 22 rfl _ _ rfl rfl (append_set _ B0 g8 v6 l s _ h6 h8 hz hl30 hok hs) ?_
        rintro v9 w3 ⟨⟨g9, cap9, rfl, hI9⟩, hgr⟩
        have hrow : ∀ k, v6.ownBlock = some k → B0 ≤ k := fun k hk => (World.ownsRow.lt h6 k hk).1
        have hS : SetAt w3 w.heap.size 33 s := At.grown hS hgr (fun e => by have := hrow _ e.symm; omega)
        have hB := below_grown hB (Nat.le_trans hWB hz) hgr (fun k hk => Nat.le_trans hWB (hrow k hk))
        have hz := Nat.le_trans hz hgr.size
        clear h6 h8 hgr hrow
        refine hK.out _ _ ?_ (fun hHeld => ?_)
        · exact hS
        clear hK K
        try simp only [Act.put, List.setIfInBounds_toArray, List.set_cons_zero, List.set_cons_succ]
        refine wpAnyH_ready (rs := [10]) (by kernel_rfl) (by simp) ?_
        refine AllReadyH.cons (o := ⟨some 53, _, _, _, _, _⟩) rfl (fun K hK => ?_) AllReadyH.nil
        go_simp
        ((with_reducible refine (clMakeV (some ⟨g9, 0, none⟩) (l.length + 1) cap9 (l ++ [s]) ((Cl.make l).part s) (make_snoc l s) _ hI9).mono ?_))
        rintro e w3 ⟨rfl, hb3⟩
        have hS := hS.step hb3 rfl
        have hB := below_step hB hb3 rfl rfl rfl rfl
        (try have hI := IsSets.step hI hb3 rfl)
        have hz := Nat.le_trans hz hb3.size
        (try have h4 := At.step h4 hb3 rfl)
        (try have h8 := At.step h8 hb3 rfl)
        (try have h6 := SetsRow.step h6 hb3 rfl)
        clear hb3
        try dsimp only
        refine hK.out _ _ ?_ (fun hHeld => ?_)
        · exact hS
        clear hK K
        try simp only [Act.put, List.setIfInBounds_toArray, List.set_cons_zero, List.set_cons_succ]
        refine wpAnyH_take (i := 11) (oi := ⟨some 54, _, _, _, _, _⟩) (v := ?_) rfl (by kernel_rfl) (by kernel_rfl) (by kernel_rfl) (fun _ _ _ h => h) (Or.inl ⟨by rfl, ?_⟩) (by exact hHeld) ?_
        rotate_left
        · (intro w hSw; (try dsimp only at hSw); go_simp; try (with_reducible rfl))
        simp only [Act.put, List.setIfInBounds_toArray, List.set_cons_zero, List.set_cons_succ]
        refine wpAnyH_take (i := 12) (oi := ⟨some 6, _, _, _, _, _⟩) (v := ?_) rfl (by kernel_rfl) (by kernel_rfl) (by kernel_rfl) (fun _ _ _ h => h) (Or.inl ⟨by rfl, ?_⟩) (by exact hHeld) ?_
        rotate_left
        · (intro w hSw; (try dsimp only at hSw); go_simp; try (with_reducible rfl))
        simp only [Act.put, List.setIfInBounds_toArray, List.set_cons_zero, List.set_cons_succ]
        refine wpAnyH_done (by kernel_rfl) ?_ _
        refine NoPanic.normal ?_
        go_wp2_with fail
        go_ret
        exact ⟨rfl, hB⟩
  refine AllReadyH.cons (o := ⟨some 47, _, _, _, _, _⟩) rfl (fun K hK => ?_) ?_
  · refine step_slice0 rfl rfl (fun g4 w3 h4n hb3 hg4 => ?_)
    have hg4b : B0 ≤ g4 := Nat.le_trans hz hg4
    (try have hne : g4 ≠ g8 := Nat.ne_of_gt (Nat.lt_of_lt_of_le (At.lt h8) hg4))
    clear hg4
    have hS := hS.step hb3 rfl
    have hB := below_step hB hb3 rfl rfl rfl rfl
    (try have hI := IsSets.step hI hb3 rfl)
    have hz := Nat.le_trans hz hb3.size
    (try have h4 := At.step h4 hb3 rfl)
    (try have h8 := At.step h8 hb3 rfl)
    (try have h6 := SetsRow.step h6 hb3 rfl)
    clear hb3
    try dsimp only
    have h4 := h4n
    clear h4n
    refine hK.out _ _ ?_ (fun hHeld => ?_)
    · exact hS
    clear hK K
    try simp only [Act.put, List.setIfInBounds_toArray, List.set_cons_zero, List.set_cons_succ]
    refine wpAnyH_ready (rs := [1, 8]) (by kernel_rfl) (by simp) ?_
    refine AllReadyH.cons (o := ⟨some 44, _, _, _, _, _⟩) rfl (fun K hK => ?_) ?_
    · go_simp
      ((with_reducible refine (clMake A n c l _ hI).mono ?_))
      rintro e w3 ⟨rfl, hb3⟩
      have hS := hS.step hb3 rfl
      have hB := below_step hB hb3 rfl rfl rfl rfl
      (try have hI := IsSets.step hI hb3 rfl)
      have hz := Nat.le_trans hz hb3.size
      (try have h4 := At.step h4 hb3 rfl)
      (try have h8 := At.step h8 hb3 rfl)
      (try have h6 := SetsRow.step h6 hb3 rfl)
      clear hb3
      try dsimp only
      refine hK.out _ _ ?_ (fun hHeld => ?_)
      · exact hS
      clear hK K
      try simp only [Act.put, List.setIfInBounds_toArray, List.set_cons_zero, List.set_cons_succ]
      refine wpAnyH_ready (rs := [3, 8]) (by kernel_rfl) (by simp) ?_
      refine AllReadyH.cons (o := ⟨some 46, _, _, _, _, _⟩) rfl (fun K hK => ?_) ?_
      · go_simp
        ((with_reducible refine (clRefineV (Cl.make l) (make_ok l) s hs ((Cl.make l).part s) (refine_yes (make_right l)) _).mono ?_))
        rintro e w3 ⟨rfl, hb3⟩
        have hS := hS.step hb3 rfl
        have hB := below_step hB hb3 rfl rfl rfl rfl
        (try have hI := IsSets.step hI hb3 rfl)
        have hz := Nat.le_trans hz hb3.size
        (try have h4 := At.step h4 hb3 rfl)
        (try have h8 := At.step h8 hb3 rfl)
        (try have h6 := SetsRow.step h6 hb3 rfl)
        clear hb3
        try dsimp only
        refine hK.out _ _ ?_ (fun hHeld => ?_)
        · exact hS
        clear hK K
        try simp only [Act.put, List.setIfInBounds_toArray, List.set_cons_zero, List.set_cons_succ]
        refine wpAnyH_ready (rs := [6, 8]) (by kernel_rfl) (by simp) ?_
        refine AllReadyH.cons (o := ⟨some 49, _, _, _, _, _⟩) rfl (fun K hK => ?_) ?_
        · refine step_append_any rfl _ _ 22 rfl _ _ rfl rfl (append_sets _ B0 g4 A n c l _ h4 hg4b hz hI hn) ?_
          rintro v6 w3 ⟨h6, hgr⟩
          have hS : SetAt w3 w.heap.size 33 s := At.grown hS hgr (by intro e; injection e with e; omega)
          have hB := below_grown hB (Nat.le_trans hWB hz) hgr (fun k hk => by injection hk with hk; omega)
          (try have h8 := At.grown h8 hgr (by intro e; injection e with e; exact hne e.symm))
          have hz := Nat.le_trans hz hgr.size
          clear hI h4 hgr
          refine hK.out _ _ ?_ (fun hHeld => ?_)
          · exact hS
          clear hK K
          try simp only [Act.put, List.setIfInBounds_toArray, List.set_cons_zero, List.set_cons_succ]
          refine wpAnyH_ready (rs := [8]) (by kernel_rfl) (by simp) ?_
          refine AllReadyH.cons (o := ⟨some 51, _, _, _, _, _⟩) rfl (fun K hK => ?_) AllReadyH.nil
          refine step_slice1 rfl _ s rfl rfl (fun g8 w3 h8n hb3 hg8 => ?_)
          (try have hne : g4 ≠ g8 := Nat.ne_of_lt (Nat.lt_of_lt_of_le (At.lt h4) hg8))
          clear hg8
          have hS := hS.step hb3 rfl
          have hB := below_step hB hb3 rfl rfl rfl rfl
          (try have hI := IsSets.step hI hb3 rfl)
          have hz := Nat.le_trans hz hb3.size
          (try have h4 := At.step h4 hb3 rfl)
          (try have h8 := At.step h8 hb3 rfl)
          (try have h6 := SetsRow.step h6 hb3 rfl)
          clear hb3
          try dsimp only
          have h8 := h8n
          clear h8n
          refine hK.out _ _ ?_ (fun hHeld => ?_)
          · exact hS
          clear hK K
          try simp only [Act.put, List.setIfInBounds_toArray, List.set_cons_zero, List.set_cons_succ]
          refine wpAnyH_ready (rs := [9]) (by kernel_rfl) (by simp) ?_
          refine AllReadyH.cons (o := ⟨some 52, _, _, _, _, _⟩) rfl (fun K hK => ?_) AllReadyH.nil
          refine step_append_any rfl _ _ 22 rfl _ _ rfl rfl (append_set _ B0 g8 v6 l s _ h6 h8 hz hl30 hok hs) ?_
          rintro v9 w3 ⟨⟨g9, cap9, rfl, hI9⟩, hgr⟩
          have hrow : ∀ k, v6.ownBlock = some k → B0 ≤ k := fun k hk => (World.ownsRow.lt h6 k hk).1
          have hS : SetAt w3 w.heap.size 33 s := At.grown hS hgr (fun e => by have := hrow _ e.symm; omega)
          have hB := below_grown hB (Nat.le_trans hWB hz) hgr (fun k hk => Nat.le_trans hWB (hrow k hk))
          have hz := Nat.le_trans hz hgr.size
          clear h6 h8 hgr hrow
          refine hK.out _ _ ?_ (fun hHeld => ?_)
          · exact hS
          clear hK K
          try simp only [Act.put, List.setIfInBounds_toArray, List.set_cons_zero, List.set_cons_succ]
          refine wpAnyH_ready (rs := [10]) (by kernel_rfl) (by simp) ?_
          refine AllReadyH.cons (o := ⟨some 53, _, _, _, _, _⟩) rfl (fun K hK => ?_) AllReadyH.nil
          go_simp
          ((with_reducible refine (clMakeV (some ⟨g9, 0, none⟩) (l.length + 1) cap9 (l ++ [s]) ((Cl.make l).part s) (make_snoc l s) _ hI9).mono ?_))
          rintro e w3 ⟨rfl, hb3⟩
          have hS := hS.step hb3 rfl
          have hB := below_step hB hb3 rfl rfl rfl rfl
          (try have hI := IsSets.step hI hb3 rfl)
          have hz := Nat.le_trans hz hb3.size
          (try have h4 := At.step h4 hb3 rfl)
          (try have h8 := At.step h8 hb3 rfl)
          (try have h6 := SetsRow.step h6 hb3 rfl)
          clear hb3
          try dsimp only
          refine hK.out _ _ ?_ (fun hHeld => ?_)
          · exact hS
          clear hK K
          try simp only [Act.put, List.setIfInBounds_toArray, List.set_cons_zero, List.set_cons_succ]
          refine wpAnyH_take (i := 11) (oi := ⟨some 54, _, _, _, _, _⟩) (v := ?_) rfl (by kernel_rfl) (by kernel_rfl) (by kernel_rfl) (fun _ _ _ h => h) (Or.inl ⟨by rfl, ?_⟩) (by exact hHeld) ?_
          rotate_left
          · (intro w hSw; (try dsimp only at hSw); go_simp; try (with_reducible rfl))
          simp only [Act.put, List.setIfInBounds_toArray, List.set_cons_zero, List.set_cons_succ]
          refine wpAnyH_take (i := 12) (oi := ⟨some 6, _, _, _, _, _⟩) (v := ?_) rfl (by kernel_rfl) (by kernel_rfl) (by kernel_rfl) (fun _ _ _ h => h) (Or.inl ⟨by rfl, ?_⟩) (by exact hHeld) ?_
          rotate_left
          · (intro w hSw; (try dsimp only at hSw); go_simp; try (with_reducible rfl))
          simp only [Act.put, List.setIfInBounds_toArray, List.set_cons_zero, List.set_cons_succ]
          refine wpAnyH_done (by kernel_rfl) ?_ _
          refine NoPanic.normal ?_
          go_wp2_with fail
          go_ret
          exact ⟨rfl, hB⟩
        refine AllReadyH.cons (o := ⟨some 51, _, _, _, _, _⟩) rfl (fun K hK => ?_) AllReadyH.nil
        · refine step_slice1 rfl _ s rfl rfl (fun g8 w3 h8n hb3 hg8 => ?_)
          (try have hne : g4 ≠ g8 := Nat.ne_of_lt (Nat.lt_of_lt_of_le (At.lt h4) hg8))
          clear hg8
          have hS := hS.step hb3 rfl
          have hB := below_step hB hb3 rfl rfl rfl rfl
          (try have hI := IsSets.step hI hb3 rfl)
          have hz := Nat.le_trans hz hb3.size
          (try have h4 := At.step h4 hb3 rfl)
          (try have h8 := At.step h8 hb3 rfl)
          (try have h6 := SetsRow.step h6 hb3 rfl)
          clear hb3
          try dsimp only
          have h8 := h8n
          clear h8n
          refine hK.out _ _ ?_ (fun hHeld => ?_)
          · exact hS
          clear hK K
          try simp only [Act.put, List.setIfInBounds_toArray, List.set_cons_zero, List.set_cons_succ]
          refine wpAnyH_ready (rs := [6]) (by kernel_rfl) (by simp) ?_
          refine AllReadyH.cons (o := ⟨some 49, _, _, _, _, _⟩) rfl (fun K hK => ?_) AllReadyH.nil
          refine step_append_any rfl _ _ 22 rfl _ _ rfl rfl (append_sets _ B0 g4 A n c l _ h4 hg4b hz hI hn) ?_
          rintro v6 w3 ⟨h6, hgr⟩
          have hS : SetAt w3 w.heap.size 33 s := At.grown hS hgr (by intro e; injection e with e; omega)
          have hB := below_grown hB (Nat.le_trans hWB hz) hgr (fun k hk => by injection hk with hk; omega)
          (try have h8 := At.grown h8 hgr (by intro e; injection e with e; exact hne e.symm))
          have hz := Nat.le_trans hz hgr.size
          clear hI h4 hgr
          refine hK.out _ _ ?_ (fun hHeld => ?_)
          · exact hS
          clear hK K
          try simp only [Act.put, List.setIfInBounds_toArray, List.set_cons_zero, List.set_cons_succ]
          refine wpAnyH_ready (rs := [9]) (by kernel_rfl) (by simp) ?_
          refine AllReadyH.cons (o := ⟨some 52, _, _, _, _, _⟩) rfl (fun K hK => ?_) AllReadyH.nil
          refine step_append_any rfl _ _ 22 rfl _ _ rfl rfl (append_set _ B0 g8 v6 l s _ h6 h8 hz hl30 hok hs) ?_
          rintro v9 w3 ⟨⟨g9, cap9, rfl, hI9⟩, hgr⟩
          have hrow : ∀ k, v6.ownBlock = some k → B0 ≤ k := fun k hk => (World.ownsRow.lt h6 k hk).1
          have hS : SetAt w3 w.heap.size 33 s := At.grown hS hgr (fun e => by have := hrow _ e.symm; omega)
          have hB := below_grown hB (Nat.le_trans hWB hz) hgr (fun k hk => Nat.le_trans hWB (hrow k hk))
          have hz := Nat.le_trans hz hgr.size
          clear h6 h8 hgr hrow
          refine hK.out _ _ ?_ (fun hHeld => ?_)
          · exact hS
          clear hK K
          try simp only [Act.put, List.setIfInBounds_toArray, List.set_cons_zero, List.set_cons_succ]
          refine wpAnyH_ready (rs := [10]) (by kernel_rfl) (by simp) ?_
          refine AllReadyH.cons (o := ⟨some 53, _, _, _, _, _⟩) rfl (fun K hK => ?_) AllReadyH.nil
          go_simp
          ((with_reducible refine (clMakeV (some ⟨g9, 0, none⟩) (l.length + 1) cap9 (l ++ [s]) ((Cl.make l).part s) (make_snoc l s) _ hI9).mono ?_))
          rintro e w3 ⟨rfl, hb3⟩
          have hS := hS.step hb3 rfl
          have hB := below_step hB hb3 rfl rfl rfl rfl
          (try have hI := IsSets.step hI hb3 rfl)
          have hz := Nat.le_trans hz hb3.size
          (try have h4 := At.step h4 hb3 rfl)
          (try have h8 := At.step h8 hb3 rfl)
          (try have h6 := SetsRow.step h6 hb3 rfl)
          clear hb3
          try dsimp only
          refine hK.out _ _ ?_ (fun hHeld => ?_)
          · exact hS
          clear hK K
          try simp only [Act.put, List.setIfInBounds_toArray, List.set_cons_zero, List.set_cons_succ]
          refine wpAnyH_take (i := 11) (oi := ⟨some 54, _, _, _, _, _⟩) (v := ?_) rfl (by kernel_rfl) (by kernel_rfl) (by kernel_rfl) (fun _ _ _ h => h) (Or.inl ⟨by rfl, ?_⟩) (by exact hHeld) ?_
          rotate_left
          · (intro w hSw; (try dsimp only at hSw); go_simp; try (with_reducible rfl))
          simp only [Act.put, List.setIfInBounds_toArray, List.set_cons_zero, List.set_cons_succ]
          refine wpAnyH_take (i := 12) (oi := ⟨some 6, _, _, _, _, _⟩) (v := ?_) rfl (by kernel_rfl) (by kernel_rfl) (by kernel_rfl) (fun _ _ _ h => h) (Or.inl ⟨by rfl, ?_⟩) (by exact hHeld) ?_
          rotate_left
          · (intro w hSw; (try dsimp only at hSw); go_simp; try (with_reducible rfl))
          simp only [Act.put, List.setIfInBounds_toArray, List.set_cons_zero, List.set_cons_succ]
          refine wpAnyH_done (by kernel_rfl) ?_ _
          refine NoPanic.normal ?_
          go_wp2_with fail
          go_ret
          exact ⟨rfl, hB⟩
      refine AllReadyH.cons (o := ⟨some 51, _, _, _, _, _⟩) rfl (fun K hK => ?_) AllReadyH.nil
      · refine step_slice1 rfl _ s rfl rfl (fun g8 w3 h8n hb3 hg8 => ?_)
        (try have hne : g4 ≠ g8 := Nat.ne_of_lt (Nat.lt_of_lt_of_le (At.lt h4) hg8))
        clear hg8
        have hS := hS.step hb3 rfl
        have hB := below_step hB hb3 rfl rfl rfl rfl
        (try have hI := IsSets.step hI hb3 rfl)
        have hz := Nat.le_trans hz hb3.size
        (try have h4 := At.step h4 hb3 rfl)
        (try have h8 := At.step h8 hb3 rfl)
        (try have h6 := SetsRow.step h6 hb3 rfl)
        clear hb3
        try dsimp only
        have h8 := h8n
        clear h8n
        refine hK.out _ _ ?_ (fun hHeld => ?_)
        · exact hS
        clear hK K
        try simp only [Act.put, List.setIfInBounds_toArray, List.set_cons_zero, List.set_cons_succ]
        refine wpAnyH_ready (rs := [3]) (by kernel_rfl) (by simp) ?_
        refine AllReadyH.cons (o := ⟨some 46, _, _, _, _, _⟩) rfl (fun K hK => ?_) AllReadyH.nil
        go_simp
        ((with_reducible refine (clRefineV (Cl.make l) (make_ok l) s hs ((Cl.make l).part s) (refine_yes (make_right l)) _).mono ?_))
        rintro e w3 ⟨rfl, hb3⟩
        have hS := hS.step hb3 rfl
        have hB := below_step hB hb3 rfl rfl rfl rfl
        (try have hI := IsSets.step hI hb3 rfl)
        have hz := Nat.le_trans hz hb3.size
        (try have h4 := At.step h4 hb3 rfl)
        (try have h8 := At.step h8 hb3 rfl)
        (try have h6 := SetsRow.step h6 hb3 rfl)
        clear hb3
        try dsimp only
        refine hK.out _ _ ?_ (fun hHeld => ?_)
        · exact hS
        clear hK K
        try simp only [Act.put, List.setIfInBounds_toArray, List.set_cons_zero, List.set_cons_succ]
        refine wpAnyH_ready (rs := [6]) (by kernel_rfl) (by simp) ?_
        refine AllReadyH.cons (o := ⟨some 49, _, _, _, _, _⟩) rfl (fun K hK => ?_) AllReadyH.nil
        refine step_append_any rfl _ _ 22 rfl _ _ rfl rfl (append_sets _ B0 g4 A n c l _ h4 hg4b hz hI hn) ?_
        rintro v6 w3 ⟨h6, hgr⟩
        have hS : SetAt w3 w.heap.size 33 s := At.grown hS hgr (by intro e; injection e with e; omega)
        have hB := below_grown hB (Nat.le_trans hWB hz) hgr (fun k hk => by injection hk with hk; omega)
        (try have h8 := At.grown h8 hgr (by intro e; injection e with e; exact hne e.symm))
        have hz := Nat.le_trans hz hgr.size
        clear hI h4 hgr
        refine hK.out _ _ ?_ (fun hHeld => ?_)
        · exact hS
        clear hK K
        try simp only [Act.put, List.setIfInBounds_toArray, List.set_cons_zero, List.set_cons_succ]
        refine wpAnyH_ready (rs := [9]) (by kernel_rfl) (by simp) ?_
        refine AllReadyH.cons (o := ⟨some 52, _, _, _, _, _⟩) rfl (fun K hK => ?_) AllReadyH.nil
        refine step_append_any rfl _ _ 22 rfl _ _ rfl rfl (append_set _ B0 g8 v6 l s _ h6 h8 hz hl30 hok hs) ?_
        rintro v9 w3 ⟨⟨g9, cap9, rfl, hI9⟩, hgr⟩
        have hrow : ∀ k, v6.ownBlock = some k → B0 ≤ k := fun k hk => (World.ownsRow.lt h6 k hk).1
        have hS : SetAt w3 w.heap.size 33 s := At.grown hS hgr (fun e => by have := hrow _ e.symm; omega)
        have hB := below_grown hB (Nat.le_trans hWB hz) hgr (fun k hk => Nat.le_trans hWB (hrow k hk))
        have hz := Nat.le_trans hz hgr.size
        clear h6 h8 hgr hrow
        refine hK.out _ _ ?_ (fun hHeld => ?_)
        · exact hS
        clear hK K
        try simp only [Act.put, List.setIfInBounds_toArray, List.set_cons_zero, List.set_cons_succ]
        refine wpAnyH_ready (rs := [10]) (by kernel_rfl) (by simp) ?_
        refine AllReadyH.cons (o := ⟨some 53, _, _, _, _, _⟩) rfl (fun K hK => ?_) AllReadyH.nil
        go_simp
        ((with_reducible refine (clMakeV (some ⟨g9, 0, none⟩) (l.length + 1) cap9 (l ++ [s]) ((Cl.make l).part s) (make_snoc l s) _ hI9).mono ?_))
        rintro e w3 ⟨rfl, hb3⟩
        have hS := hS.step hb3 rfl
        have hB := below_step hB hb3 rfl rfl rfl rfl
        (try have hI := IsSets.step hI hb3 rfl)
        have hz := Nat.le_trans hz hb3.size
        (try have h4 := At.step h4 hb3 rfl)
        (try have h8 := At.step h8 hb3 rfl)
        (try have h6 := SetsRow.step h6 hb3 rfl)
        clear hb3
        try dsimp only
        refine hK.out _ _ ?_ (fun hHeld => ?_)
        · exact hS
        clear hK K
        try simp only [Act.put, List.setIfInBounds_toArray, List.set_cons_zero, List.set_cons_succ]
        refine wpAnyH_take (i := 11) (oi := ⟨some 54, _, _, _, _, _⟩) (v := ?_) rfl (by kernel_rfl) (by kernel_rfl) (by kernel_rfl) (fun _ _ _ h => h) (Or.inl ⟨by rfl, ?_⟩) (by exact hHeld) ?_
        rotate_left
        · (intro w hSw; (try dsimp only at hSw); go_simp; try (with_reducible rfl))
        simp only [Act.put, List.setIfInBounds_toArray, List.set_cons_zero, List.set_cons_succ]
        refine wpAnyH_take (i := 12) (oi := ⟨some 6, _, _, _, _, _⟩) (v := ?_) rfl (by kernel_rfl) (by kernel_rfl) (by kernel_rfl) (fun _ _ _ h => h) (Or.inl ⟨by rfl, ?_⟩) (by exact hHeld) ?_
        rotate_left
        · (intro w hSw; (try dsimp only at hSw); go_simp; try (with_reducible rfl))
        simp only [Act.put, List.setIfInBounds_toArray, List.set_cons_zero, List.set_cons_succ]
        refine wpAnyH_done (by kernel_rfl) ?_ _
        refine NoPanic.normal ?_
        go_wp2_with fail
        go_ret
        exact ⟨rfl, hB⟩
    refine AllReadyH.cons (o := ⟨some 51, _, _, _, _, _⟩) rfl (fun K hK => ?_) AllReadyH.nil
    · refine step_slice1 rfl _ s rfl rfl (fun g8 w3 h8n hb3 hg8 => ?_)
      (try have hne : g4 ≠ g8 := Nat.ne_of_lt (Nat.lt_of_lt_of_le (At.lt h4) hg8))
      clear hg8
      have hS := hS.step hb3 rfl
      have hB := below_step hB hb3 rfl rfl rfl rfl
      (try have hI := IsSets.step hI hb3 rfl)
      have hz := Nat.le_trans hz hb3.size
      (try have h4 := At.step h4 hb3 rfl)
      (try have h8 := At.step h8 hb3 rfl)
      (try have h6 := SetsRow.step h6 hb3 rfl)
      clear hb3
      try dsimp only
      have h8 := h8n
      clear h8n
      refine hK.out _ _ ?_ (fun hHeld => ?_)
      · exact hS
      clear hK K
      try simp only [Act.put, List.setIfInBounds_toArray, List.set_cons_zero, List.set_cons_succ]
      refine wpAnyH_ready (rs := [1]) (by kernel_rfl) (by simp) ?_
      refine AllReadyH.cons (o := ⟨some 44, _, _, _, _, _⟩) rfl (fun K hK => ?_) AllReadyH.nil
      go_simp
      ((with_reducible refine (clMake A n c l _ hI).mono ?_))
      rintro e w3 ⟨rfl, hb3⟩
      have hS := hS.step hb3 rfl
      have hB := below_step hB hb3 rfl rfl rfl rfl
      (try have hI := IsSets.step hI hb3 rfl)
      have hz := Nat.le_trans hz hb3.size
      (try have h4 := At.step h4 hb3 rfl)
      (try have h8 := At.step h8 hb3 rfl)
      (try have h6 := SetsRow.step h6 hb3 rfl)
      clear hb3
      try dsimp only
      refine hK.out _ _ ?_ (fun hHeld => ?_)
      · exact hS
      clear hK K
      try simp only [Act.put, List.setIfInBounds_toArray, List.set_cons_zero, List.set_cons_succ]
      refine wpAnyH_ready (rs := [3]) (by kernel_rfl) (by simp) ?_
      refine AllReadyH.cons (o := ⟨some 46, _, _, _, _, _⟩) rfl (fun K hK => ?_) AllReadyH.nil
      go_simp
      ((with_reducible refine (clRefineV (Cl.make l) (make_ok l) s hs ((Cl.make l).part s) (refine_yes (make_right l)) _).mono ?_))
      rintro e w3 ⟨rfl, hb3⟩
      have hS := hS.step hb3 rfl
      have hB := below_step hB hb3 rfl rfl rfl rfl
      (try have hI := IsSets.step hI hb3 rfl)
      have hz := Nat.le_trans hz hb3.size
      (try have h4 := At.step h4 hb3 rfl)
      (try have h8 := At.step h8 hb3 rfl)
      (try have h6 := SetsRow.step h6 hb3 rfl)
      clear hb3
      try dsimp only
      refine hK.out _ _ ?_ (fun hHeld => ?_)
      · exact hS
      clear hK K
      try simp only [Act.put, List.setIfInBounds_toArray, List.set_cons_zero, List.set_cons_succ]
      refine wpAnyH_ready (rs := [6]) (by kernel_rfl) (by simp) ?_
      refine AllReadyH.cons (o := ⟨some 49, _, _, _, _, _⟩) rfl (fun K hK => ?_) AllReadyH.nil
      refine step_append_any rfl _ _ 22 rfl _ _ rfl rfl (append_sets _ B0 g4 A n c l _ h4 hg4b hz hI hn) ?_
      rintro v6 w3 ⟨h6, hgr⟩
      have hS : SetAt w3 w.heap.size 33 s := At.grown hS hgr (by intro e; injection e with e; omega)
      have hB := below_grown hB (Nat.le_trans hWB hz) hgr (fun k hk => by injection hk with hk; omega)
      (try have h8 := At.grown h8 hgr (by intro e; injection e with e; exact hne e.symm))
      have hz := Nat.le_trans hz hgr.size
      clear hI h4 hgr
      refine hK.out _ _ ?_ (fun hHeld => ?_)
      · exact hS
      clear hK K
      try simp only [Act.put, List.setIfInBounds_toArray, List.set_cons_zero, List.set_cons_succ]
      refine wpAnyH_ready (rs := [9]) (by kernel_rfl) (by simp) ?_
      refine AllReadyH.cons (o := ⟨some 52, _, _, _, _, _⟩) rfl (fun K hK => ?_) AllReadyH.nil
      refine step_append_any rfl _ _ 22 rfl _ _ rfl rfl (append_set _ B0 g8 v6 l s _ h6 h8 hz hl30 hok hs) ?_
      rintro v9 w3 ⟨⟨g9, cap9, rfl, hI9⟩, hgr⟩
      have hrow : ∀ k, v6.ownBlock = some k → B0 ≤ k := fun k hk => (World.ownsRow.lt h6 k hk).1
      have hS : SetAt w3 w.heap.size 33 s := At.grown hS hgr (fun e => by have := hrow _ e.symm; omega)
      have hB := below_grown hB (Nat.le_trans hWB hz) hgr (fun k hk => Nat.le_trans hWB (hrow k hk))
      have hz := Nat.le_trans hz hgr.size
      clear h6 h8 hgr hrow
      refine hK.out _ _ ?_ (fun hHeld => ?_)
      · exact hS
      clear hK K
      try simp only [Act.put, List.setIfInBounds_toArray, List.set_cons_zero, List.set_cons_succ]
      refine wpAnyH_ready (rs := [10]) (by kernel_rfl) (by simp) ?_
      refine AllReadyH.cons (o := ⟨some 53, _, _, _, _, _⟩) rfl (fun K hK => ?_) AllReadyH.nil
      go_simp
      ((with_reducible refine (clMakeV (some ⟨g9, 0, none⟩) (l.length + 1) cap9 (l ++ [s]) ((Cl.make l).part s) (make_snoc l s) _ hI9).mono ?_))
      rintro e w3 ⟨rfl, hb3⟩
      have hS := hS.step hb3 rfl
      have hB := below_step hB hb3 rfl rfl rfl rfl
      (try have hI := IsSets.step hI hb3 rfl)
      have hz := Nat.le_trans hz hb3.size
      (try have h4 := At.step h4 hb3 rfl)
      (try have h8 := At.step h8 hb3 rfl)
      (try have h6 := SetsRow.step h6 hb3 rfl)
      clear hb3
      try dsimp only
      refine hK.out _ _ ?_ (fun hHeld => ?_)
      · exact hS
      clear hK K
      try simp only [Act.put, List.setIfInBounds_toArray, List.set_cons_zero, List.set_cons_succ]
      refine wpAnyH_take (i := 11) (oi := ⟨some 54, _, _, _, _, _⟩) (v := ?_) rfl (by kernel_rfl) (by kernel_rfl) (by kernel_rfl) (fun _ _ _ h => h) (Or.inl ⟨by rfl, ?_⟩) (by exact hHeld) ?_
      rotate_left
      · (intro w hSw; (try dsimp only at hSw); go_simp; try (with_reducible rfl))
      simp only [Act.put, List.setIfInBounds_toArray, List.set_cons_zero, List.set_cons_succ]
      refine wpAnyH_take (i := 12) (oi := ⟨some 6, _, _, _, _, _⟩) (v := ?_) rfl (by kernel_rfl) (by kernel_rfl) (by kernel_rfl) (fun _ _ _ h => h) (Or.inl ⟨by rfl, ?_⟩) (by exact hHeld) ?_
      rotate_left
      · (intro w hSw; (try dsimp only at hSw); go_simp; try (with_reducible rfl))
      simp only [Act.put, List.setIfInBounds_toArray, List.set_cons_zero, List.set_cons_succ]
      refine wpAnyH_done (by kernel_rfl) ?_ _
      refine NoPanic.normal ?_
      go_wp2_with fail
      go_ret
      exact ⟨rfl, hB⟩
  refine AllReadyH.cons (o := ⟨some 51, _, _, _, _, _⟩) rfl (fun K hK => ?_) AllReadyH.nil
  · refine step_slice1 rfl _ s rfl rfl (fun g8 w3 h8n hb3 hg8 => ?_)
    (try have hne : g4 ≠ g8 := Nat.ne_of_lt (Nat.lt_of_lt_of_le (At.lt h4) hg8))
    clear hg8
    have hS := hS.step hb3 rfl
    have hB := below_step hB hb3 rfl rfl rfl rfl
    (try have hI := IsSets.step hI hb3 rfl)
    have hz := Nat.le_trans hz hb3.size
    (try have h4 := At.step h4 hb3 rfl)
    (try have h8 := At.step h8 hb3 rfl)
    (try have h6 := SetsRow.step h6 hb3 rfl)
    clear hb3
    try dsimp only
    have h8 := h8n
    clear h8n
    refine hK.out _ _ ?_ (fun hHeld => ?_)
    · exact hS
    clear hK K
    try simp only [Act.put, List.setIfInBounds_toArray, List.set_cons_zero, List.set_cons_succ]
    refine wpAnyH_ready (rs := [1, 4]) (by kernel_rfl) (by simp) ?_
    refine AllReadyH.cons (o := ⟨some 44, _, _, _, _, _⟩) rfl (fun K hK => ?_) ?_
    · go_simp
      ((with_reducible refine (clMake A n c l _ hI).mono ?_))
      rintro e w3 ⟨rfl, hb3⟩
      have hS := hS.step hb3 rfl
      have hB := below_step hB hb3 rfl rfl rfl rfl
      (try have hI := IsSets.step hI hb3 rfl)
      have hz := Nat.le_trans hz hb3.size
      (try have h4 := At.step h4 hb3 rfl)
      (try have h8 := At.step h8 hb3 rfl)
      (try have h6 := SetsRow.step h6 hb3 rfl)
      clear hb3
      try dsimp only
      refine hK.out _ _ ?_ (fun hHeld => ?_)
      · exact hS
      clear hK K
      try simp only [Act.put, List.setIfInBounds_toArray, List.set_cons_zero, List.set_cons_succ]
      refine wpAnyH_ready (rs := [3, 4]) (by kernel_rfl) (by simp) ?_
      refine AllReadyH.cons (o := ⟨some 46, _, _, _, _, _⟩) rfl (fun K hK => ?_) ?_
      · go_simp
        ((with_reducible refine (clRefineV (Cl.make l) (make_ok l) s hs ((Cl.make l).part s) (refine_yes (make_right l)) _).mono ?_))
        rintro e w3 ⟨rfl, hb3⟩
        have hS := hS.step hb3 rfl
        have hB := below_step hB hb3 rfl rfl rfl rfl
        (try have hI := IsSets.step hI hb3 rfl)
        have hz := Nat.le_trans hz hb3.size
        (try have h4 := At.step h4 hb3 rfl)
        (try have h8 := At.step h8 hb3 rfl)
        (try have h6 := SetsRow.step h6 hb3 rfl)
        clear hb3
        try dsimp only
        refine hK.out _ _ ?_ (fun hHeld => ?_)
        · exact hS
        clear hK K
        try simp only [Act.put, List.setIfInBounds_toArray, List.set_cons_zero, List.set_cons_succ]
        refine wpAnyH_ready (rs := [4]) (by kernel_rfl) (by simp) ?_
        refine AllReadyH.cons (o := ⟨some 47, _, _, _, _, _⟩) rfl (fun K hK => ?_) AllReadyH.nil
        refine step_slice0 rfl rfl (fun g4 w3 h4n hb3 hg4 => ?_)
        have hg4b : B0 ≤ g4 := Nat.le_trans hz hg4
        (try have hne : g4 ≠ g8 := Nat.ne_of_gt (Nat.lt_of_lt_of_le (At.lt h8) hg4))
        clear hg4
        have hS := hS.step hb3 rfl
        have hB := below_step hB hb3 rfl rfl rfl rfl
        (try have hI := IsSets.step hI hb3 rfl)
        have hz := Nat.le_trans hz hb3.size
        (try have h4 := At.step h4 hb3 rfl)
        (try have h8 := At.step h8 hb3 rfl)
        (try have h6 := SetsRow.step h6 hb3 rfl)
        clear hb3
        try dsimp only
        have h4 := h4n
        clear h4n
        refine hK.out _ _ ?_ (fun hHeld => ?_)
        · exact hS
        clear hK K
        try simp only [Act.put, List.setIfInBounds_toArray, List.set_cons_zero, List.set_cons_succ]
        refine wpAnyH_ready (rs := [6]) (by kernel_rfl) (by simp) ?_
        refine AllReadyH.cons (o := ⟨some 49, _, _, _, _, _⟩) rfl (fun K hK => ?_) AllReadyH.nil
        refine step_append_any rfl _ _ 22 rfl _ _ rfl rfl (append_sets _ B0 g4 A n c l _ h4 hg4b hz hI hn) ?_
        rintro v6 w3 ⟨h6, hgr⟩
        have hS : SetAt w3 w.heap.size 33 s := At.grown hS hgr (by intro e; injection e with e; omega)
        have hB := below_grown hB (Nat.le_trans hWB hz) hgr (fun k hk => by injection hk with hk; omega)
        (try have h8 := At.grown h8 hgr (by intro e; injection e with e; exact hne e.symm))
        have hz := Nat.le_trans hz hgr.size
        clear hI h4 hgr
        refine hK.out _ _ ?_ (fun hHeld => ?_)
        · exact hS
        clear hK K
        try simp only [Act.put, List.setIfInBounds_toArray, List.set_cons_zero, List.set_cons_succ]
        refine wpAnyH_ready (rs := [9]) (by kernel_rfl) (by simp) ?_
        refine AllReadyH.cons (o := ⟨some 52, _, _, _, _, _⟩) rfl (fun K hK => ?_) AllReadyH.nil
        refine step_append_any rfl _ _ 22 rfl _ _ rfl rfl (append_set _ B0 g8 v6 l s _ h6 h8 hz hl30 hok hs) ?_
        rintro v9 w3 ⟨⟨g9, cap9, rfl, hI9⟩, hgr⟩
        have hrow : ∀ k, v6.ownBlock = some k → B0 ≤ k := fun k hk => (World.ownsRow.lt h6 k hk).1
        have hS : SetAt w3 w.heap.size 33 s := At.grown hS hgr (fun e => by have := hrow _ e.symm; omega)
        have hB := below_grown hB (Nat.le_trans hWB hz) hgr (fun k hk => Nat.le_trans hWB (hrow k hk))
        have hz := Nat.le_trans hz hgr.size
        clear h6 h8 hgr hrow
        refine hK.out _ _ ?_ (fun hHeld => ?_)
        · exact hS
        clear hK K
        try simp only [Act.put, List.setIfInBounds_toArray, List.set_cons_zero, List.set_cons_succ]
        refine wpAnyH_ready (rs := [10]) (by kernel_rfl) (by simp) ?_
        refine AllReadyH.cons (o := ⟨some 53, _, _, _, _, _⟩) rfl (fun K hK => ?_) AllReadyH.nil
        go_simp
        ((with_reducible refine (clMakeV (some ⟨g9, 0, none⟩) (l.length + 1) cap9 (l ++ [s]) ((Cl.make l).part s) (make_snoc l s) _ hI9).mono ?_))
        rintro e w3 ⟨rfl, hb3⟩
        have hS := hS.step hb3 rfl
        have hB := below_step hB hb3 rfl rfl rfl rfl
        (try have hI := IsSets.step hI hb3 rfl)
        have hz := Nat.le_trans hz hb3.size
        (try have h4 := At.step h4 hb3 rfl)
        (try have h8 := At.step h8 hb3 rfl)
        (try have h6 := SetsRow.step h6 hb3 rfl)
        clear hb3
        try dsimp only
        refine hK.out _ _ ?_ (fun hHeld => ?_)
        · exact hS
        clear hK K
        try simp only [Act.put, List.setIfInBounds_toArray, List.set_cons_zero, List.set_cons_succ]
        refine wpAnyH_take (i := 11) (oi := ⟨some 54, _, _, _, _, _⟩) (v := ?_) rfl (by kernel_rfl) (by kernel_rfl) (by kernel_rfl) (fun _ _ _ h => h) (Or.inl ⟨by rfl, ?_⟩) (by exact hHeld) ?_
        rotate_left
        · (intro w hSw; (try dsimp only at hSw); go_simp; try (with_reducible rfl))
        simp only [Act.put, List.setIfInBounds_toArray, List.set_cons_zero, List.set_cons_succ]
        refine wpAnyH_take (i := 12) (oi := ⟨some 6, _, _, _, _, _⟩) (v := ?_) rfl (by kernel_rfl) (by kernel_rfl) (by kernel_rfl) (fun _ _ _ h => h) (Or.inl ⟨by rfl, ?_⟩) (by exact hHeld) ?_
        rotate_left
        · (intro w hSw; (try dsimp only at hSw); go_simp; try (with_reducible rfl))
        simp only [Act.put, List.setIfInBounds_toArray, List.set_cons_zero, List.set_cons_succ]
        refine wpAnyH_done (by kernel_rfl) ?_ _
        refine NoPanic.normal ?_
        go_wp2_with fail
        go_ret
        exact ⟨rfl, hB⟩
      refine AllReadyH.cons (o := ⟨some 47, _, _, _, _, _⟩) rfl (fun K hK => ?_) AllReadyH.nil
      · refine step_slice0 rfl rfl (fun g4 w3 h4n hb3 hg4 => ?_)
        have hg4b : B0 ≤ g4 := Nat.le_trans hz hg4
        (try have hne : g4 ≠ g8 := Nat.ne_of_gt (Nat.lt_of_lt_of_le (At.lt h8) hg4))
        clear hg4
        have hS := hS.step hb3 rfl
        have hB := below_step hB hb3 rfl rfl rfl rfl
        (try have hI := IsSets.step hI hb3 rfl)
        have hz := Nat.le_trans hz hb3.size
        (try have h4 := At.step h4 hb3 rfl)
        (try have h8 := At.step h8 hb3 rfl)
        (try have h6 := SetsRow.step h6 hb3 rfl)
        clear hb3
        try dsimp only
        have h4 := h4n
        clear h4n
        refine hK.out _ _ ?_ (fun hHeld => ?_)
        · exact hS
        clear hK K
        try simp only [Act.put, List.setIfInBounds_toArray, List.set_cons_zero, List.set_cons_succ]
        refine wpAnyH_ready (rs := [3]) (by kernel_rfl) (by simp) ?_
        refine AllReadyH.cons (o := ⟨some 46, _, _, _, _, _⟩) rfl (fun K hK => ?_) AllReadyH.nil
        go_simp
        ((with_reducible refine (clRefineV (Cl.make l) (make_ok l) s hs ((Cl.make l).part s) (refine_yes (make_right l)) _).mono ?_))
        rintro e w3 ⟨rfl, hb3⟩
        have hS := hS.step hb3 rfl
        have hB := below_step hB hb3 rfl rfl rfl rfl
        (try have hI := IsSets.step hI hb3 rfl)
        have hz := Nat.le_trans hz hb3.size
        (try have h4 := At.step h4 hb3 rfl)
        (try have h8 := At.step h8 hb3 rfl)
        (try have h6 := SetsRow.step h6 hb3 rfl)
        clear hb3
        try dsimp only
        refine hK.out _ _ ?_ (fun hHeld => ?_)
        · exact hS
        clear hK K
        try simp only [Act.put, List.setIfInBounds_toArray, List.set_cons_zero, List.set_cons_succ]
        refine wpAnyH_ready (rs := [6]) (by kernel_rfl) (by simp) ?_
        refine AllReadyH.cons (o := ⟨some 49, _, _, _, _, _⟩) rfl (fun K hK => ?_) AllReadyH.nil
        refine step_append_any rfl _ _ 22 rfl _ _ rfl rfl (append_sets _ B0 g4 A n c l _ h4 hg4b hz hI hn) ?_
        rintro v6 w3 ⟨h6, hgr⟩
        have hS : SetAt w3 w.heap.size 33 s := At.grown hS hgr (by intro e; injection e with e; omega)
        have hB := below_grown hB (Nat.le_trans hWB hz) hgr (fun k hk => by injection hk with hk; omega)
        (try have h8 := At.grown h8 hgr (by intro e; injection e with e; exact hne e.symm))
        have hz := Nat.le_trans hz hgr.size
        clear hI h4 hgr
        refine hK.out _ _ ?_ (fun hHeld => ?_)
        · exact hS
        clear hK K
        try simp only [Act.put, List.setIfInBounds_toArray, List.set_cons_zero, List.set_cons_succ]
        refine wpAnyH_ready (rs := [9]) (by kernel_rfl) (by simp) ?_
        refine AllReadyH.cons (o := ⟨some 52, _, _, _, _, _⟩) rfl (fun K hK => ?_) AllReadyH.nil
        refine step_append_any rfl _ _ 22 rfl _ _ rfl rfl (append_set _ B0 g8 v6 l s _ h6 h8 hz hl30 hok hs) ?_
        rintro v9 w3 ⟨⟨g9, cap9, rfl, hI9⟩, hgr⟩
        have hrow : ∀ k, v6.ownBlock = some k → B0 ≤ k := fun k hk => (World.ownsRow.lt h6 k hk).1
        have hS : SetAt w3 w.heap.size 33 s := At.grown hS hgr (fun e => by have := hrow _ e.symm; omega)
        have hB := below_grown hB (Nat.le_trans hWB hz) hgr (fun k hk => Nat.le_trans hWB (hrow k hk))
        have hz := Nat.le_trans hz hgr.size
        clear h6 h8 hgr hrow
        refine hK.out _ _ ?_ (fun hHeld => ?_)
        · exact hS
        clear hK K
        try simp only [Act.put, List.setIfInBounds_toArray, List.set_cons_zero, List.set_cons_succ]
        refine wpAnyH_ready (rs := [10]) (by kernel_rfl) (by simp) ?_
        refine AllReadyH.cons (o := ⟨some 53, _, _, _, _, _⟩) rfl (fun K hK => ?_) AllReadyH.nil
        go_simp
        ((with_reducible refine (clMakeV (some ⟨g9, 0, none⟩) (l.length + 1) cap9 (l ++ [s]) ((Cl.make l).part s) (make_snoc l s) _ hI9).mono ?_))
        rintro e w3 ⟨rfl, hb3⟩
        have hS := hS.step hb3 rfl
        have hB := below_step hB hb3 rfl rfl rfl rfl
        (try have hI := IsSets.step hI hb3 rfl)
        have hz := Nat.le_trans hz hb3.size
        (try have h4 := At.step h4 hb3 rfl)
        (try have h8 := At.step h8 hb3 rfl)
        (try have h6 := SetsRow.step h6 hb3 rfl)
        clear hb3
        try dsimp only
        refine hK.out _ _ ?_ (fun hHeld => ?_)
        · exact hS
        clear hK K
        try simp only [Act.put, List.setIfInBounds_toArray, List.set_cons_zero, List.set_cons_succ]
        refine wpAnyH_take (i := 11) (oi := ⟨some 54, _, _, _, _, _⟩) (v := ?_) rfl (by kernel_rfl) (by kernel_rfl) (by kernel_rfl) (fun _ _ _ h => h) (Or.inl ⟨by rfl, ?_⟩) (by exact hHeld) ?_
        rotate_left
        · (intro w hSw; (try dsimp only at hSw); go_simp; try (with_reducible rfl))
        simp only [Act.put, List.setIfInBounds_toArray, List.set_cons_zero, List.set_cons_succ]
        refine wpAnyH_take (i := 12) (oi := ⟨some 6, _, _, _, _, _⟩) (v := ?_) rfl (by kernel_rfl) (by kernel_rfl) (by kernel_rfl) (fun _ _ _ h => h) (Or.inl ⟨by rfl, ?_⟩) (by exact hHeld) ?_
        rotate_left
        · (intro w hSw; (try dsimp only at hSw); go_simp; try (with_reducible rfl))
        simp only [Act.put, List.setIfInBounds_toArray, List.set_cons_zero, List.set_cons_succ]
        refine wpAnyH_done (by kernel_rfl) ?_ _
        refine NoPanic.normal ?_
        go_wp2_with fail
        go_ret
        exact ⟨rfl, hB⟩
    refine AllReadyH.cons (o := ⟨some 47, _, _, _, _, _⟩) rfl (fun K hK => ?_) AllReadyH.nil
    · refine step_slice0 rfl rfl (fun g4 w3 h4n hb3 hg4 => ?_)
      have hg4b : B0 ≤ g4 := Nat.le_trans hz hg4
      (try have hne : g4 ≠ g8 := Nat.ne_of_gt (Nat.lt_of_lt_of_le (At.lt h8) hg4))
      clear hg4
      have hS := hS.step hb3 rfl
      have hB := below_step hB hb3 rfl rfl rfl rfl
      (try have hI := IsSets.step hI hb3 rfl)
      have hz := Nat.le_trans hz hb3.size
      (try have h4 := At.step h4 hb3 rfl)
      (try have h8 := At.step h8 hb3 rfl)
      (try have h6 := SetsRow.step h6 hb3 rfl)
      clear hb3
      try dsimp only
      have h4 := h4n
      clear h4n
      refine hK.out _ _ ?_ (fun hHeld => ?_)
      · exact hS
      clear hK K
      try simp only [Act.put, List.setIfInBounds_toArray, List.set_cons_zero, List.set_cons_succ]
      refine wpAnyH_ready (rs := [1]) (by kernel_rfl) (by simp) ?_
      refine AllReadyH.cons (o := ⟨some 44, _, _, _, _, _⟩) rfl (fun K hK => ?_) AllReadyH.nil
      go_simp
      ((with_reducible refine (clMake A n c l _ hI).mono ?_))
      rintro e w3 ⟨rfl, hb3⟩
      have hS := hS.step hb3 rfl
      have hB := below_step hB hb3 rfl rfl rfl rfl
      (try have hI := IsSets.step hI hb3 rfl)
      have hz := Nat.le_trans hz hb3.size
      (try have h4 := At.step h4 hb3 rfl)
      (try have h8 := At.step h8 hb3 rfl)
      (try have h6 := SetsRow.step h6 hb3 rfl)
      clear hb3
      try dsimp only
      refine hK.out _ _ ?_ (fun hHeld => ?_)
      · exact hS
      clear hK K
      try simp only [Act.put, List.setIfInBounds_toArray, List.set_cons_zero, List.set_cons_succ]
      refine wpAnyH_ready (rs := [3]) (by kernel_rfl) (by simp) ?_
      refine AllReadyH.cons (o := ⟨some 46, _, _, _, _, _⟩) rfl (fun K hK => ?_) AllReadyH.nil
      go_simp
      ((with_reducible refine (clRefineV (Cl.make l) (make_ok l) s hs ((Cl.make l).part s) (refine_yes (make_right l)) _).mono ?_))
      rintro e w3 ⟨rfl, hb3⟩
      have hS := hS.step hb3 rfl
      have hB := below_step hB hb3 rfl rfl rfl rfl
      (try have hI := IsSets.step hI hb3 rfl)
      have hz := Nat.le_trans hz hb3.size
      (try have h4 := At.step h4 hb3 rfl)
      (try have h8 := At.step h8 hb3 rfl)
      (try have h6 := SetsRow.step h6 hb3 rfl)
      clear hb3
      try dsimp only
      refine hK.out _ _ ?_ (fun hHeld => ?_)
      · exact hS
      clear hK K
      try simp only [Act.put, List.setIfInBounds_toArray, List.set_cons_zero, List.set_cons_succ]
      refine wpAnyH_ready (rs := [6]) (by kernel_rfl) (by simp) ?_
      refine AllReadyH.cons (o := ⟨some 49, _, _, _, _, _⟩) rfl (fun K hK => ?_) AllReadyH.nil
      refine step_append_any rfl _ _ 22 rfl _ _ rfl rfl (append_sets _ B0 g4 A n c l _ h4 hg4b hz hI hn) ?_
      rintro v6 w3 ⟨h6, hgr⟩
      have hS : SetAt w3 w.heap.size 33 s := At.grown hS hgr (by intro e; injection e with e; omega)
      have hB := below_grown hB (Nat.le_trans hWB hz) hgr (fun k hk => by injection hk with hk; omega)
      (try have h8 := At.grown h8 hgr (by intro e; injection e with e; exact hne e.symm))
      have hz := Nat.le_trans hz hgr.size
      clear hI h4 hgr
      refine hK.out _ _ ?_ (fun hHeld => ?_)
      · exact hS
      clear hK K
      try simp only [Act.put, List.setIfInBounds_toArray, List.set_cons_zero, List.set_cons_succ]
      refine wpAnyH_ready (rs := [9]) (by kernel_rfl) (by simp) ?_
      refine AllReadyH.cons (o := ⟨some 52, _, _, _, _, _⟩) rfl (fun K hK => ?_) AllReadyH.nil
      refine step_append_any rfl _ _ 22 rfl _ _ rfl rfl (append_set _ B0 g8 v6 l s _ h6 h8 hz hl30 hok hs) ?_
      rintro v9 w3 ⟨⟨g9, cap9, rfl, hI9⟩, hgr⟩
      have hrow : ∀ k, v6.ownBlock = some k → B0 ≤ k := fun k hk => (World.ownsRow.lt h6 k hk).1
      have hS : SetAt w3 w.heap.size 33 s := At.grown hS hgr (fun e => by have := hrow _ e.symm; omega)
      have hB := below_grown hB (Nat.le_trans hWB hz) hgr (fun k hk => Nat.le_trans hWB (hrow k hk))
      have hz := Nat.le_trans hz hgr.size
      clear h6 h8 hgr hrow
      refine hK.out _ _ ?_ (fun hHeld => ?_)
      · exact hS
      clear hK K
      try simp only [Act.put, List.setIfInBounds_toArray, List.set_cons_zero, List.set_cons_succ]
      refine wpAnyH_ready (rs := [10]) (by kernel_rfl) (by simp) ?_
      refine AllReadyH.cons (o := ⟨some 53, _, _, _, _, _⟩) rfl (fun K hK => ?_) AllReadyH.nil
      go_simp
      ((with_reducible refine (clMakeV (some ⟨g9, 0, none⟩) (l.length + 1) cap9 (l ++ [s]) ((Cl.make l).part s) (make_snoc l s) _ hI9).mono ?_))
      rintro e w3 ⟨rfl, hb3⟩
      have hS := hS.step hb3 rfl
      have hB := below_step hB hb3 rfl rfl rfl rfl
      (try have hI := IsSets.step hI hb3 rfl)
      have hz := Nat.le_trans hz hb3.size
      (try have h4 := At.step h4 hb3 rfl)
      (try have h8 := At.step h8 hb3 rfl)
      (try have h6 := SetsRow.step h6 hb3 rfl)
      clear hb3
      try dsimp only
      refine hK.out _ _ ?_ (fun hHeld => ?_)
      · exact hS
      clear hK K
      try simp only [Act.put, List.setIfInBounds_toArray, List.set_cons_zero, List.set_cons_succ]
      refine wpAnyH_take (i := 11) (oi := ⟨some 54, _, _, _, _, _⟩) (v := ?_) rfl (by kernel_rfl) (by kernel_rfl) (by kernel_rfl) (fun _ _ _ h => h) (Or.inl ⟨by rfl, ?_⟩) (by exact hHeld) ?_
      rotate_left
      · (intro w hSw; (try dsimp only at hSw); go_simp; try (with_reducible rfl))
      simp only [Act.put, List.setIfInBounds_toArray, List.set_cons_zero, List.set_cons_succ]
      refine wpAnyH_take (i := 12) (oi := ⟨some 6, _, _, _, _, _⟩) (v := ?_) rfl (by kernel_rfl) (by kernel_rfl) (by kernel_rfl) (fun _ _ _ h => h) (Or.inl ⟨by rfl, ?_⟩) (by exact hHeld) ?_
      rotate_left
      · (intro w hSw; (try dsimp only at hSw); go_simp; try (with_reducible rfl))
      simp only [Act.put, List.setIfInBounds_toArray, List.set_cons_zero, List.set_cons_succ]
      refine wpAnyH_done (by kernel_rfl) ?_ _
      refine NoPanic.normal ?_
      go_wp2_with fail
      go_ret
      exact ⟨rfl, hB⟩

set_option maxRecDepth 100000 in
set_option maxHeartbeats 8000000 in
theorem lawRefineYes (A : Option Addr) (n c : Nat) (l : List St) (s : St) (hs : s.Ok) (raw : Cl) (hraw : raw.Ok) (hr : raw.right = true) (w : World) (h : IsSets w A n l) (hn : n ≤ 30) :
    Calls Try.prog 4 #[.slice A n c, .agg #[.int .u64 s.w0, .int .u64 s.w1, .int .u64 s.w2, .int .u64 s.w3], .agg raw.cells] w fun e w' => e = .returned (.bool true) ∧ Below w.heap.size w w' := by
  have HI := Lib.hid h
  have HRr := Lib.hid hr
  obtain ⟨x, hx⟩ : ∃ x : Cl, x = raw.part s := ⟨_, rfl⟩
  have HXe := Lib.hid hx
  have HXo : Hid x.Ok := by rw [hx]; exact Cl.part_ok raw s
  have HXr : Hid (x.right = true) := by rw [hx]; exact Cl.part_right raw s
  clear h hr hx
  have z1 := zero_cl
  go_enter Try.func4, Try.ntmps4
  go_wp2_with fail
  refine (awakeYes _).mono ?_
  rintro e w1 ⟨rfl, hb1⟩
  have hS : SetAt w1 w.heap.size 33 s := At.step ((At.new w 33 #[.int .u64 s.w0, .int .u64 s.w1, .int .u64 s.w2, .int .u64 s.w3]).alloc (Obj.cells raw.cells 26)) hb1 rfl
  have hR : At w1 (w.heap.size + 1) 26 raw.cells := At.step (at_new' (w.alloc (Obj.cells #[.int .u64 s.w0, .int .u64 s.w1, .int .u64 s.w2, .int .u64 s.w3] 33)) (w.heap.size + 1) 26 (cs := raw.cells) (by simp)) hb1 rfl
  have hB : Below w.heap.size w w1 := (((Below.refl _ _).alloc (Nat.le_refl _) (Obj.cells #[.int .u64 s.w0, .int .u64 s.w1, .int .u64 s.w2, .int .u64 s.w3] 33)).alloc (by simp) (Obj.cells raw.cells 26)).trans (hb1.mono (by simp; omega))
  clear hb1
  have HR := Lib.hid hR
  obtain ⟨c0, c1, c2, c3⟩ := hS.cells
  go_wp2_with (first | (refine wpList_load_row rfl 26 _ rfl (w.heap.size + 1) rfl 26 raw.cells (0, 0) _ HR.out Try.underlying26 rfl (by rw [Cl.size]; kernel_rfl) ?_) | fail)
  refine (clRefineV raw hraw s hs x (by rw [refine_yes HRr.out]; exact HXe.out.symm) _).mono ?_
  rintro e w2 ⟨rfl, hb2⟩
  have hS := hS.step hb2 rfl
  have hR := hR.step hb2 rfl
  have hB := below_step hB hb2 rfl rfl rfl rfl
  clear hb2 c0 c1 c2 c3 HR
  obtain ⟨gx, hgx⟩ : ∃ gx, gx = w2.heap.size := ⟨_, rfl⟩
  go_wp2_with (first | (refine wpList_store_row rfl 26 _ _ rfl w2.heap.size x.cells rfl rfl 26 Cl.zero.cells (at_new' _ _ _ rfl) (by rw [Cl.size]; kernel_rfl) (by rw [Cl.size, Cl.size]) (Cl.one' _) ?_) | fail)
  have hX : At ((w2.alloc (Obj.cells Cl.zero.cells 26)).setRow gx x.cells) gx 26 x.cells := (at_new' _ _ _ hgx).row _
  have hxS : w.heap.size < gx := by have := hS.lt; omega
  have hxR : w.heap.size + 1 < gx := by have := hR.lt; omega
  have hS : SetAt ((w2.alloc (Obj.cells Cl.zero.cells 26)).setRow gx x.cells) w.heap.size 33 s := At.rowOther (At.alloc hS _) (by omega) _
  have hR : At ((w2.alloc (Obj.cells Cl.zero.cells 26)).setRow gx x.cells) (w.heap.size + 1) 26 raw.cells := At.rowOther (At.alloc hR _) (by omega) _
  have hB : Below w.heap.size w ((w2.alloc (Obj.cells Cl.zero.cells 26)).setRow gx x.cells) := below_row (hB.alloc hB.size _) (by omega) _
  rw [← hgx]
  clear hgx
  refine wp_region_noPanic ?_
  refine wp_region_held_drew (S := (fun w' => At w' (w.heap.size + 1) 26 raw.cells ∧ At w' gx 26 x.cells)) (by kernel_rfl) (by exact ⟨hR, hX⟩) (fun hHeld => ?_)
  refine wpAnyH_take (i := 0) (oi := ⟨some 19, _, _, _, _, _⟩) (v := _) rfl (by kernel_rfl) (by kernel_rfl) (by kernel_rfl) (fun _ _ _ h => h) (yieldsIf_load_at (by rfl) 26 _ rfl (w.heap.size + 1) rfl raw.cells _ (fun _ h => h.1) Try.underlying26 rfl (by rw [Cl.size]; kernel_rfl)) (by exact hHeld) ?_
  simp only [Act.put, List.setIfInBounds_toArray, List.set_cons_zero, List.set_cons_succ]
  refine wpAnyH_take (i := 2) (oi := ⟨some 21, _, _, _, _, _⟩) (v := _) rfl (by kernel_rfl) (by kernel_rfl) (by kernel_rfl) (fun _ _ _ h => h) (yieldsIf_load_at (by rfl) 26 _ rfl (w.heap.size + 1) rfl raw.cells _ (fun _ h => h.1) Try.underlying26 rfl (by rw [Cl.size]; kernel_rfl)) (by exact hHeld) ?_
  simp only [Act.put, List.setIfInBounds_toArray, List.set_cons_zero, List.set_cons_succ]
  refine wpAnyH_ready (rs := [1]) (by kernel_rfl) (by simp) ?_
  refine AllReadyH.cons (o := ⟨some 20, _, _, _, _, _⟩) rfl (fun K hK => ?_) AllReadyH.nil
  go_simp
  ((with_reducible refine (clRightV raw hraw true HRr.out _).mono ?_))
  rintro e w4 ⟨rfl, hb3⟩
  have hR := hR.step hb3 rfl
  have hX := hX.step hb3 rfl
  have hS := hS.step hb3 rfl
  have hB := below_step hB hb3 rfl rfl rfl rfl
  clear hb3
  dsimp only
  refine hK.out _ _ ?_ (fun hHeld => ?_)
  · exact ⟨hR, hX⟩
  clear hK K
  try simp only [Act.put, List.setIfInBounds_toArray, List.set_cons_zero, List.set_cons_succ]
  refine wpAnyH_ready (rs := [3]) (by kernel_rfl) (by simp) ?_
  refine AllReadyH.cons (o := ⟨some 22, _, _, _, _, _⟩) rfl (fun K hK => ?_) AllReadyH.nil
  go_simp
  ((with_reducible refine (lawRightV raw hraw true HRr.out _).mono ?_))
  rintro e w4 ⟨rfl, hb3⟩
  have hR := hR.step hb3 rfl
  have hX := hX.step hb3 rfl
  have hS := hS.step hb3 rfl
  have hB := below_step hB hb3 rfl rfl rfl rfl
  clear hb3
  dsimp only
  refine hK.out _ _ ?_ (fun hHeld => ?_)
  · exact ⟨hR, hX⟩
  clear hK K
  try simp only [Act.put, List.setIfInBounds_toArray, List.set_cons_zero, List.set_cons_succ]
  refine wpAnyH_take (i := 4) (oi := ⟨some 23, _, _, _, _, _⟩) (v := ?_) rfl (by kernel_rfl) (by kernel_rfl) (by kernel_rfl) (fun _ _ _ h => h) (Or.inl ⟨by rfl, ?_⟩) (by exact hHeld) ?_
  rotate_left
  · (intro w hSw; (try dsimp only at hSw); go_simp; try (with_reducible rfl))
  simp only [Act.put, List.setIfInBounds_toArray, List.set_cons_zero, List.set_cons_succ]
  refine wpAnyH_take (i := 5) (oi := ⟨some 24, _, _, _, _, _⟩) (v := ?_) rfl (by kernel_rfl) (by kernel_rfl) (by kernel_rfl) (fun _ _ _ h => h) (Or.inl ⟨by rfl, ?_⟩) (by exact hHeld) ?_
  rotate_left
  · (intro w hSw; (try dsimp only at hSw); go_simp; try (with_reducible rfl))
  simp only [Act.put, List.setIfInBounds_toArray, List.set_cons_zero, List.set_cons_succ]
  refine wpAnyH_take (i := 6) (oi := ⟨some 25, _, _, _, _, _⟩) (v := _) rfl (by kernel_rfl) (by kernel_rfl) (by kernel_rfl) (fun _ _ _ h => h) (yieldsIf_load_at (by rfl) 26 _ rfl (w.heap.size + 1) rfl raw.cells _ (fun _ h => h.1) Try.underlying26 rfl (by rw [Cl.size]; kernel_rfl)) (by exact hHeld) ?_
  simp only [Act.put, List.setIfInBounds_toArray, List.set_cons_zero, List.set_cons_succ]
  refine wpAnyH_ready (rs := [7]) (by kernel_rfl) (by simp) ?_
  refine AllReadyH.cons (o := ⟨some 26, _, _, _, _, _⟩) rfl (fun K hK => ?_) AllReadyH.nil
  go_simp
  ((with_reducible refine (lawRightV raw hraw true HRr.out _).mono ?_))
  rintro e w4 ⟨rfl, hb3⟩
  have hR := hR.step hb3 rfl
  have hX := hX.step hb3 rfl
  have hS := hS.step hb3 rfl
  have hB := below_step hB hb3 rfl rfl rfl rfl
  clear hb3
  dsimp only
  refine hK.out _ _ ?_ (fun hHeld => ?_)
  · exact ⟨hR, hX⟩
  clear hK K
  try simp only [Act.put, List.setIfInBounds_toArray, List.set_cons_zero, List.set_cons_succ]
  refine wpAnyH_take (i := 8) (oi := ⟨some 27, _, _, _, _, _⟩) (v := ?_) rfl (by kernel_rfl) (by kernel_rfl) (by kernel_rfl) (fun _ _ _ h => h) (Or.inl ⟨by rfl, ?_⟩) (by exact hHeld) ?_
  rotate_left
  · (intro w hSw; (try dsimp only at hSw); go_simp; try (with_reducible rfl))
  simp only [Act.put, List.setIfInBounds_toArray, List.set_cons_zero, List.set_cons_succ]
  refine wpAnyH_take (i := 9) (oi := ⟨some 28, _, _, _, _, _⟩) (v := ?_) rfl (by kernel_rfl) (by kernel_rfl) (by kernel_rfl) (fun _ _ _ h => h) (Or.inl ⟨by rfl, ?_⟩) (by exact hHeld) ?_
  rotate_left
  · (intro w hSw; (try dsimp only at hSw); go_simp; try (with_reducible rfl))
  simp only [Act.put, List.setIfInBounds_toArray, List.set_cons_zero, List.set_cons_succ]
  refine wpAnyH_take (i := 10) (oi := ⟨some 29, _, _, _, _, _⟩) (v := undef) rfl (by kernel_rfl) (by kernel_rfl) (by kernel_rfl) (fun _ _ _ h => h) (Or.inr ⟨by rfl, rfl⟩) (by exact hHeld) ?_
  simp only [Act.put, List.setIfInBounds_toArray, List.set_cons_zero, List.set_cons_succ]
  refine wpAnyH_take (i := 11) (oi := ⟨some 30, _, _, _, _, _⟩) (v := undef) rfl (by kernel_rfl) (by kernel_rfl) (by kernel_rfl) (fun _ _ _ h => h) (Or.inr ⟨by rfl, rfl⟩) (by exact hHeld) ?_
  simp only [Act.put, List.setIfInBounds_toArray, List.set_cons_zero, List.set_cons_succ]
  refine wpAnyH_take (i := 12) (oi := ⟨some 31, _, _, _, _, _⟩) (v := undef) rfl (by kernel_rfl) (by kernel_rfl) (by kernel_rfl) (fun _ _ _ h => h) (Or.inr ⟨by rfl, rfl⟩) (by exact hHeld) ?_
  simp only [Act.put, List.setIfInBounds_toArray, List.set_cons_zero, List.set_cons_succ]
  refine wpAnyH_take (i := 13) (oi := ⟨some 32, _, _, _, _, _⟩) (v := ?_) rfl (by kernel_rfl) (by kernel_rfl) (by kernel_rfl) (fun _ _ _ h => h) (Or.inl ⟨by rfl, ?_⟩) (by exact hHeld) ?_
  rotate_left
  · (intro w hSw; (try dsimp only at hSw); go_simp; try (with_reducible rfl))
  simp only [Act.put, List.setIfInBounds_toArray, List.set_cons_zero, List.set_cons_succ]
  refine wpAnyH_take (i := 14) (oi := ⟨some 33, _, _, _, _, _⟩) (v := ?_) rfl (by kernel_rfl) (by kernel_rfl) (by kernel_rfl) (fun _ _ _ h => h) (Or.inl ⟨by rfl, ?_⟩) (by exact hHeld) ?_
  rotate_left
  · (intro w hSw; (try dsimp only at hSw); go_simp; try (with_reducible rfl))
  simp only [Act.put, List.setIfInBounds_toArray, List.set_cons_zero, List.set_cons_succ]
  refine wpAnyH_take (i := 15) (oi := ⟨some 34, _, _, _, _, _⟩) (v := ?_) rfl (by kernel_rfl) (by kernel_rfl) (by kernel_rfl) (fun _ _ _ h => h) (Or.inl ⟨by rfl, ?_⟩) (by exact hHeld) ?_
  rotate_left
  · (intro w hSw; (try dsimp only at hSw); go_simp; try (with_reducible rfl))
  simp only [Act.put, List.setIfInBounds_toArray, List.set_cons_zero, List.set_cons_succ]
  refine wpAnyH_take (i := 16) (oi := ⟨some 35, _, _, _, _, _⟩) (v := _) rfl (by kernel_rfl) (by kernel_rfl) (by kernel_rfl) (fun _ _ _ h => h) (yieldsIf_load_at (by rfl) 26 _ rfl (w.heap.size + 1) rfl raw.cells _ (fun _ h => h.1) Try.underlying26 rfl (by rw [Cl.size]; kernel_rfl)) (by exact hHeld) ?_
  simp only [Act.put, List.setIfInBounds_toArray, List.set_cons_zero, List.set_cons_succ]
  refine wpAnyH_ready (rs := [17]) (by kernel_rfl) (by simp) ?_
  refine AllReadyH.cons (o := ⟨some 36, _, _, _, _, _⟩) rfl (fun K hK => ?_) AllReadyH.nil
  go_simp
  ((with_reducible refine (lawRightV raw hraw true HRr.out _).mono ?_))
  rintro e w4 ⟨rfl, hb3⟩
  have hR := hR.step hb3 rfl
  have hX := hX.step hb3 rfl
  have hS := hS.step hb3 rfl
  have hB := below_step hB hb3 rfl rfl rfl rfl
  clear hb3
  dsimp only
  refine hK.out _ _ ?_ (fun hHeld => ?_)
  · exact ⟨hR, hX⟩
  clear hK K
  try simp only [Act.put, List.setIfInBounds_toArray, List.set_cons_zero, List.set_cons_succ]
  refine wpAnyH_take (i := 18) (oi := ⟨some 37, _, _, _, _, _⟩) (v := ?_) rfl (by kernel_rfl) (by kernel_rfl) (by kernel_rfl) (fun _ _ _ h => h) (Or.inl ⟨by rfl, ?_⟩) (by exact hHeld) ?_
  rotate_left
  · (intro w hSw; (try dsimp only at hSw); go_simp; try (with_reducible rfl))
  simp only [Act.put, List.setIfInBounds_toArray, List.set_cons_zero, List.set_cons_succ]
  refine wpAnyH_take (i := 19) (oi := ⟨some 38, _, _, _, _, _⟩) (v := _) rfl (by kernel_rfl) (by kernel_rfl) (by kernel_rfl) (fun _ _ _ h => h) (yieldsIf_load_at (by rfl) 26 _ rfl gx rfl x.cells _ (fun _ h => h.2) Try.underlying26 rfl (by rw [Cl.size]; kernel_rfl)) (by exact hHeld) ?_
  simp only [Act.put, List.setIfInBounds_toArray, List.set_cons_zero, List.set_cons_succ]
  refine wpAnyH_ready (rs := [20]) (by kernel_rfl) (by simp) ?_
  refine AllReadyH.cons (o := ⟨some 39, _, _, _, _, _⟩) rfl (fun K hK => ?_) AllReadyH.nil
  go_simp
  ((with_reducible refine (lawRightV x HXo.out true HXr.out _).mono ?_))
  rintro e w4 ⟨rfl, hb3⟩
  have hR := hR.step hb3 rfl
  have hX := hX.step hb3 rfl
  have hS := hS.step hb3 rfl
  have hB := below_step hB hb3 rfl rfl rfl rfl
  clear hb3
  dsimp only
  refine hK.out _ _ ?_ (fun hHeld => ?_)
  · exact ⟨hR, hX⟩
  clear hK K
  try simp only [Act.put, List.setIfInBounds_toArray, List.set_cons_zero, List.set_cons_succ]
  refine wpAnyH_take (i := 21) (oi := ⟨some 40, _, _, _, _, _⟩) (v := ?_) rfl (by kernel_rfl) (by kernel_rfl) (by kernel_rfl) (fun _ _ _ h => h) (Or.inl ⟨by rfl, ?_⟩) (by exact hHeld) ?_
  rotate_left
  · (intro w hSw; (try dsimp only at hSw); go_simp; try (with_reducible rfl))
  simp only [Act.put, List.setIfInBounds_toArray, List.set_cons_zero, List.set_cons_succ]
  refine wpAnyH_take (i := 22) (oi := ⟨some 41, _, _, _, _, _⟩) (v := ?_) rfl (by kernel_rfl) (by kernel_rfl) (by kernel_rfl) (fun _ _ _ h => h) (Or.inl ⟨by rfl, ?_⟩) (by exact hHeld) ?_
  rotate_left
  · (intro w hSw; (try dsimp only at hSw); go_simp; try (with_reducible rfl))
  simp only [Act.put, List.setIfInBounds_toArray, List.set_cons_zero, List.set_cons_succ]
  refine wpAnyH_take (i := 23) (oi := ⟨some 42, _, _, _, _, _⟩) (v := ?_) rfl (by kernel_rfl) (by kernel_rfl) (by kernel_rfl) (fun _ _ _ h => h) (Or.inl ⟨by rfl, ?_⟩) (by exact hHeld) ?_
  rotate_left
  · (intro w hSw; (try dsimp only at hSw); go_simp; try (with_reducible rfl))
  simp only [Act.put, List.setIfInBounds_toArray, List.set_cons_zero, List.set_cons_succ]
  refine wpAnyH_done (by kernel_rfl) ?_ _
  refine NoPanic.normal ?_
  clear hR hX
  have hI : IsSets _ A n l := HI.out.next hB
  have hz0 := hS.lt
  obtain ⟨B0, hB0⟩ : ∃ B0 : Nat, B0 = w4.heap.size := ⟨_, rfl⟩
  rw [← hB0] at hz0
  have hz : B0 ≤ w4.heap.size := by omega
  have hWB : w.heap.size ≤ B0 := by omega
  clear hB0
  have hl30 : l.length ≤ 30 := by have := HI.out.1; omega
  have hok := HI.out.2.2.1
  have hq1 : ∀ W, (Op.equalIn 10000 26 (.agg ((Cl.make l).part s).cells) (.agg ((Cl.make l).part s).cells)).run Try.prog W = .ok true W := fun W => clEq W _
  go_wp2_with fail
  refine wp_region_noPanic ?_
  refine wp_region_held_drew (S := (fun w' => SetAt w' w.heap.size 33 s)) (by kernel_rfl) (by exact hS) (fun hHeld => ?_)
  have hS := hS.drew
  have hI := hI.drew
  have hB := Below.drew hB
  refine wpAnyH_take (i := 0) (oi := ⟨some 43, _, _, _, _, _⟩) (v := ?_) rfl (by kernel_rfl) (by kernel_rfl) (by kernel_rfl) (fun _ _ _ h => h) (Or.inl ⟨by rfl, ?_⟩) (by exact hHeld) ?_
  rotate_left
  · (intro w hSw; (try dsimp only at hSw); go_simp; try (with_reducible rfl))
  simp only [Act.put, List.setIfInBounds_toArray, List.set_cons_zero, List.set_cons_succ]
  refine wpAnyH_take (i := 2) (oi := ⟨some 45, _, _, _, _, _⟩) (v := ?_) rfl (by kernel_rfl) (by kernel_rfl) (by kernel_rfl) (fun _ _ _ h => h) (Or.inl ⟨by rfl, ?_⟩) (by exact hHeld) ?_
  rotate_left
  · (intro w hSw; (try dsimp only at hSw); obtain ⟨c0, c1, c2, c3⟩ := SetAt.cells hSw; go_simp; try (with_reducible rfl))
  simp only [Act.put, List.setIfInBounds_toArray, List.set_cons_zero, List.set_cons_succ]
  refine wpAnyH_take (i := 5) (oi := ⟨some 48, _, _, _, _, _⟩) (v := ?_) rfl (by kernel_rfl) (by kernel_rfl) (by kernel_rfl) (fun _ _ _ h => h) (Or.inl ⟨by rfl, ?_⟩) (by exact hHeld) ?_
  rotate_left
  · (intro w hSw; (try dsimp only at hSw); go_simp; try (with_reducible rfl))
  simp only [Act.put, List.setIfInBounds_toArray, List.set_cons_zero, List.set_cons_succ]
  refine wpAnyH_take (i := 7) (oi := ⟨some 50, _, _, _, _, _⟩) (v := ?_) rfl (by kernel_rfl) (by kernel_rfl) (by kernel_rfl) (fun _ _ _ h => h) (Or.inl ⟨by rfl, ?_⟩) (by exact hHeld) ?_
  rotate_left
  · (intro w hSw; (try dsimp only at hSw); obtain ⟨c0, c1, c2, c3⟩ := SetAt.cells hSw; go_simp; try (with_reducible rfl))
  simp only [Act.put, List.setIfInBounds_toArray, List.set_cons_zero, List.set_cons_succ]
  refine wpAnyH_ready (rs := [1, 4, 8]) (by kernel_rfl) (by simp) ?_
  refine AllReadyH.cons (o := ⟨some 44, _, _, _, _, _⟩) rfl (fun K hK => ?_) ?_
  · go_simp
    ((with_reducible refine (clMake A n c l _ hI).mono ?_))
    rintro e w3 ⟨rfl, hb3⟩
    have hS := hS.step hb3 rfl
    have hB := below_step hB hb3 rfl rfl rfl rfl
    (try have hI := IsSets.step hI hb3 rfl)
    have hz := Nat.le_trans hz hb3.size
    (try have h4 := At.step h4 hb3 rfl)
    (try have h8 := At.step h8 hb3 rfl)
    (try have h6 := SetsRow.step h6 hb3 rfl)
    clear hb3
    try dsimp only
    refine hK.out _ _ ?_ (fun hHeld => ?_)
    · exact hS
    clear hK K
    try simp only [Act.put, List.setIfInBounds_toArray, List.set_cons_zero, List.set_cons_succ]
    refine wpAnyH_ready (rs := [3, 4, 8]) (by kernel_rfl) (by simp) ?_
    refine AllReadyH.cons (o := ⟨some 46, _, _, _, _, _⟩) rfl (fun K hK => ?_) ?_
    · go_simp
      ((with_reducible refine (clRefineV (Cl.make l) (make_ok l) s hs ((Cl.make l).part s) (refine_yes (make_right l)) _).mono ?_))
      rintro e w3 ⟨rfl, hb3⟩
      have hS := hS.step hb3 rfl
      have hB := below_step hB hb3 rfl rfl rfl rfl
      (try have hI := IsSets.step hI hb3 rfl)
      have hz := Nat.le_trans hz hb3.size
      (try have h4 := At.step h4 hb3 rfl)
      (try have h8 := At.step h8 hb3 rfl)
      (try have h6 := SetsRow.step h6 hb3 rfl)
      clear hb3
      try dsimp only
      refine hK.out _ _ ?_ (fun hHeld => ?_)
      · exact hS
      clear hK K
      try simp only [Act.put, List.setIfInBounds_toArray, List.set_cons_zero, List.set_cons_succ]
      refine wpAnyH_ready (rs := [4, 8]) (by kernel_rfl) (by simp) ?_
      refine AllReadyH.cons (o := ⟨some 47, _, _, _, _, _⟩) rfl (fun K hK => ?_) ?_
      · refine step_slice0 rfl rfl (fun g4 w3 h4n hb3 hg4 => ?_)
        have hg4b : B0 ≤ g4 := Nat.le_trans hz hg4
        (try have hne : g4 ≠ g8 := Nat.ne_of_gt (Nat.lt_of_lt_of_le (At.lt h8) hg4))
        clear hg4
        have hS := hS.step hb3 rfl
        have hB := below_step hB hb3 rfl rfl rfl rfl
        (try have hI := IsSets.step hI hb3 rfl)
        have hz := Nat.le_trans hz hb3.size
        (try have h4 := At.step h4 hb3 rfl)
        (try have h8 := At.step h8 hb3 rfl)
        (try have h6 := SetsRow.step h6 hb3 rfl)
        clear hb3
        try dsimp only
        have h4 := h4n
        clear h4n
        refine hK.out _ _ ?_ (fun hHeld => ?_)
        · exact hS
        clear hK K
        try simp only [Act.put, List.setIfInBounds_toArray, List.set_cons_zero, List.set_cons_succ]
        refine wpAnyH_ready (rs := [6, 8]) (by kernel_rfl) (by simp) ?_
        refine AllReadyH.cons (o := ⟨some 49, _, _, _, _, _⟩) rfl (fun K hK => ?_) ?_
        · refine step_append_any rfl _ _ 22 rfl _ _ rfl rfl (append_sets _ B0 g4 A n c l _ h4 hg4b hz hI hn) ?_
          rintro v6 w3 ⟨h6, hgr⟩
          have hS : SetAt w3 w.heap.size 33 s := At.grown hS hgr (by intro e; injection e with e; omega)
          have hB := below_grown hB (Nat.le_trans hWB hz) hgr (fun k hk => by injection hk with hk; omega)
          (try have h8 := At.grown h8 hgr (by intro e; injection e with e; exact hne e.symm))
          have hz := Nat.le_trans hz hgr.size
          clear hI h4 hgr
          refine hK.out _ _ ?_ (fun hHeld => ?_)
          · exact hS
          clear hK K
          try simp only [Act.put, List.setIfInBounds_toArray, List.set_cons_zero, List.set_cons_succ]
          refine wpAnyH_ready (rs := [8]) (by kernel_rfl) (by simp) ?_
          refine AllReadyH.cons (o := ⟨some 51, _, _, _, _, _⟩) rfl (fun K hK => ?_) AllReadyH.nil
          refine step_slice1 rfl _ s rfl rfl (fun g8 w3 h8n hb3 hg8 => ?_)
          (try have hne : g4 ≠ g8 := Nat.ne_of_lt (Nat.lt_of_lt_of_le (At.lt h4) hg8))
          clear hg8
          have hS := hS.step hb3 rfl
          have hB := below_step hB hb3 rfl rfl rfl rfl
          (try have hI := IsSets.step hI hb3 rfl)
          have hz := Nat.le_trans hz hb3.size
          (try have h4 := At.step h4 hb3 rfl)
          (try have h8 := At.step h8 hb3 rfl)
          (try have h6 := SetsRow.step h6 hb3 rfl)
          clear hb3
          try dsimp only
          have h8 := h8n
          clear h8n
          refine hK.out _ _ ?_ (fun hHeld => ?_)
          · exact hS
          clear hK K
          try simp only [Act.put, List.setIfInBounds_toArray, List.set_cons_zero, List.set_cons_succ]
          refine wpAnyH_ready (rs := [9]) (by kernel_rfl) (by simp) ?_
          refine AllReadyH.cons (o := ⟨some 52, _, _, _, _, _⟩) rfl (fun K hK => ?_) AllReadyH.nil
          refine step_append_any rfl _ _ 22 rfl _ _ rfl rfl (append_set _ B0 g8 v6 l s _ h6 h8 hz hl30 hok hs) ?_
          rintro v9 w3 ⟨⟨g9, cap9, rfl, hI9⟩, hgr⟩
          have hrow : ∀ k, v6.ownBlock = some k → B0 ≤ k := fun k hk => (World.ownsRow.lt h6 k hk).1
          have hS : SetAt w3 w.heap.size 33 s := At.grown hS hgr (fun e => by have := hrow _ e.symm; omega)
          have hB := below_grown hB (Nat.le_trans hWB hz) hgr (fun k hk => Nat.le_trans hWB (hrow k hk))
          have hz := Nat.le_trans hz hgr.size
          clear h6 h8 hgr hrow
          refine hK.out _ _ ?_ (fun hHeld => ?_)
          · exact hS
          clear hK K
          try simp only [Act.put, List.setIfInBounds_toArray, List.set_cons_zero, List.set_cons_succ]
          refine wpAnyH_ready (rs := [10]) (by kernel_rfl) (by simp) ?_
          refine AllReadyH.cons (o := ⟨some 53, _, _, _, _, _⟩) rfl (fun K hK => ?_) AllReadyH.nil
          go_simp
          ((with_reducible refine (clMakeV (some ⟨g9, 0, none⟩) (l.length + 1) cap9 (l ++ [s]) ((Cl.make l).part s) (make_snoc l s) _ hI9).mono ?_))
          rintro e w3 ⟨rfl, hb3⟩
          have hS := hS.step hb3 rfl
          have hB := below_step hB hb3 rfl rfl rfl rfl
          (try have hI := IsSets.step hI hb3 rfl)
          have hz := Nat.le_trans hz hb3.size
          (try have h4 := At.step h4 hb3 rfl)
          (try have h8 := At.step h8 hb3 rfl)
          (try have h6 := SetsRow.step h6 hb3 rfl)
          clear hb3
          try dsimp only
          refine hK.out _ _ ?_ (fun hHeld => ?_)
          · exact hS
          clear hK K
          try simp only [Act.put, List.setIfInBounds_toArray, List.set_cons_zero, List.set_cons_succ]
          refine wpAnyH_take (i := 11) (oi := ⟨some 54, _, _, _, _, _⟩) (v := ?_) rfl (by kernel_rfl) (by kernel_rfl) (by kernel_rfl) (fun _ _ _ h => h) (Or.inl ⟨by rfl, ?_⟩) (by exact hHeld) ?_
          rotate_left
          · (intro w hSw; (try dsimp only at hSw); go_simp; try (with_reducible rfl))
          simp only [Act.put, List.setIfInBounds_toArray, List.set_cons_zero, List.set_cons_succ]
          refine wpAnyH_take (i := 12) (oi := ⟨some 6, _, _, _, _, _⟩) (v := ?_) rfl (by kernel_rfl) (by kernel_rfl) (by kernel_rfl) (fun _ _ _ h => h) (Or.inl ⟨by rfl, ?_⟩) (by exact hHeld) ?_
          rotate_left
          · (intro w hSw; (try dsimp only at hSw); go_simp; try (with_reducible rfl))
          simp only [Act.put, List.setIfInBounds_toArray, List.set_cons_zero, List.set_cons_succ]
          refine wpAnyH_done (by kernel_rfl) ?_ _
          refine NoPanic.normal ?_
          go_wp2_with fail
          go_ret
          exact ⟨rfl, hB⟩
        refine AllReadyH.cons (o := ⟨some 51, _, _, _, _, _⟩) rfl (fun K hK => ?_) AllReadyH.nil
        · refine step_slice1 rfl _ s rfl rfl (fun g8 w3 h8n hb3 hg8 => ?_)
          (try have hne : g4 ≠ g8 := Nat.ne_of_lt (Nat.lt_of_lt_of_le (At.lt h4) hg8))
          clear hg8
          have hS := hS.step hb3 rfl
          have hB := below_step hB hb3 rfl rfl rfl rfl
          (try have hI := IsSets.step hI hb3 rfl)
          have hz := Nat.le_trans hz hb3.size
          (try have h4 := At.step h4 hb3 rfl)
          (try have h8 := At.step h8 hb3 rfl)
          (try have h6 := SetsRow.step h6 hb3 rfl)
          clear hb3
          try dsimp only
          have h8 := h8n
          clear h8n
          refine hK.out _ _ ?_ (fun hHeld => ?_)
          · exact hS
          clear hK K
          try simp only [Act.put, List.setIfInBounds_toArray, List.set_cons_zero, List.set_cons_succ]
          refine wpAnyH_ready (rs := [6]) (by kernel_rfl) (by simp) ?_
          refine AllReadyH.cons (o := ⟨some 49, _, _, _, _, _⟩) rfl (fun K hK => ?_) AllReadyH.nil
          refine step_append_any rfl _ _ 22 rfl _ _ rfl rfl (append_sets _ B0 g4 A n c l _ h4 hg4b hz hI hn) ?_
          rintro v6 w3 ⟨h6, hgr⟩
          have hS : SetAt w3 w.heap.size 33 s := At.grown hS hgr (by intro e; injection e with e; omega)
          have hB := below_grown hB (Nat.le_trans hWB hz) hgr (fun k hk => by injection hk with hk; omega)
          (try have h8 := At.grown h8 hgr (by intro e; injection e with e; exact hne e.symm))
          have hz := Nat.le_trans hz hgr.size
          clear hI h4 hgr
          refine hK.out _ _ ?_ (fun hHeld => ?_)
          · exact hS
          clear hK K
          try simp only [Act.put, List.setIfInBounds_toArray, List.set_cons_zero, List.set_cons_succ]
          refine wpAnyH_ready (rs := [9]) (by kernel_rfl) (by simp) ?_
          refine AllReadyH.cons (o := ⟨some 52, _, _, _, _, _⟩) rfl (fun K hK => ?_) AllReadyH.nil
          refine step_append_any rfl _ _ 22 rfl _ _ rfl rfl (append_set _ B0 g8 v6 l s _ h6 h8 hz hl30 hok hs) ?_
          rintro v9 w3 ⟨⟨g9, cap9, rfl, hI9⟩, hgr⟩
          have hrow : ∀ k, v6.ownBlock = some k → B0 ≤ k := fun k hk => (World.ownsRow.lt h6 k hk).1
          have hS : SetAt w3 w.heap.size 33 s := At.grown hS hgr (fun e => by have := hrow _ e.symm; omega)
          have hB := below_grown hB (Nat.le_trans hWB hz) hgr (fun k hk => Nat.le_trans hWB (hrow k hk))
          have hz := Nat.le_trans hz hgr.size
          clear h6 h8 hgr hrow
          refine hK.out _ _ ?_ (fun hHeld => ?_)
          · exact hS
          clear hK K
          try simp only [Act.put, List.setIfInBounds_toArray, List.set_cons_zero, List.set_cons_succ]
          refine wpAnyH_ready (rs := [10]) (by kernel_rfl) (by simp) ?_
          refine AllReadyH.cons (o := ⟨some 53, _, _, _, _, _⟩) rfl (fun K hK => ?_) AllReadyH.nil
          go_simp
          ((with_reducible refine (clMakeV (some ⟨g9, 0, none⟩) (l.length + 1) cap9 (l ++ [s]) ((Cl.make l).part s) (make_snoc l s) _ hI9).mono ?_))
          rintro e w3 ⟨rfl, hb3⟩
          have hS := hS.step hb3 rfl
          have hB := below_step hB hb3 rfl rfl rfl rfl
          (try have hI := IsSets.step hI hb3 rfl)
          have hz := Nat.le_trans hz hb3.size
          (try have h4 := At.step h4 hb3 rfl)
          (try have h8 := At.step h8 hb3 rfl)
          (try have h6 := SetsRow.step h6 hb3 rfl)
          clear hb3
          try dsimp only
          refine hK.out _ _ ?_ (fun hHeld => ?_)
          · exact hS
          clear hK K
          try simp only [Act.put, List.setIfInBounds_toArray, List.set_cons_zero, List.set_cons_succ]
          refine wpAnyH_take (i := 11) (oi := ⟨some 54, _, _, _, _, _⟩) (v := ?_) rfl (by kernel_rfl) (by kernel_rfl) (by kernel_rfl) (fun _ _ _ h => h) (Or.inl ⟨by rfl, ?_⟩) (by exact hHeld) ?_
          rotate_left
          · (intro w hSw; (try dsimp only at hSw); go_simp; try (with_reducible rfl))
          simp only [Act.put, List.setIfInBounds_toArray, List.set_cons_zero, List.set_cons_succ]
          refine wpAnyH_take (i := 12) (oi := ⟨some 6, _, _, _, _, _⟩) (v := ?_) rfl (by kernel_rfl) (by kernel_rfl) (by kernel_rfl) (fun _ _ _ h => h) (Or.inl ⟨by rfl, ?_⟩) (by exact hHeld) ?_
          rotate_left
          · (intro w hSw; (try dsimp only at hSw); go_simp; try (with_reducible rfl))
          simp only [Act.put, List.setIfInBounds_toArray, List.set_cons_zero, List.set_cons_succ]
          refine wpAnyH_done (by kernel_rfl) ?_ _
          refine NoPanic.normal ?_
          go_wp2_with fail
          go_ret
          exact ⟨rfl, hB⟩
      refine AllReadyH.cons (o := ⟨some 51, _, _, _, _, _⟩) rfl (fun K hK => ?_) AllReadyH.nil
      · refine step_slice1 rfl _ s rfl rfl (fun g8 w3 h8n hb3 hg8 => ?_)
        (try have hne : g4 ≠ g8 := Nat.ne_of_lt (Nat.lt_of_lt_of_le (At.lt h4) hg8))
        clear hg8
        have hS := hS.step hb3 rfl
        have hB := below_step hB hb3 rfl rfl rfl rfl
        (try have hI := IsSets.step hI hb3 rfl)
        have hz := Nat.le_trans hz hb3.size
        (try have h4 := At.step h4 hb3 rfl)
        (try have h8 := At.step h8 hb3 rfl)
        (try have h6 := SetsRow.step h6 hb3 rfl)
        clear hb3
        try dsimp only
        have h8 := h8n
        clear h8n
        refine hK.out _ _ ?_ (fun hHeld => ?_)
        · exact hS
        clear hK K
        try simp only [Act.put, List.setIfInBounds_toArray, List.set_cons_zero, List.set_cons_succ]
        refine wpAnyH_ready (rs := [4]) (by kernel_rfl) (by simp) ?_
        refine AllReadyH.cons (o := ⟨some 47, _, _, _, _, _⟩) rfl (fun K hK => ?_) AllReadyH.nil
        refine step_slice0 rfl rfl (fun g4 w3 h4n hb3 hg4 => ?_)
        have hg4b : B0 ≤ g4 := Nat.le_trans hz hg4
        (try have hne : g4 ≠ g8 := Nat.ne_of_gt (Nat.lt_of_lt_of_le (At.lt h8) hg4))
        clear hg4
        have hS := hS.step hb3 rfl
        have hB := below_step hB hb3 rfl rfl rfl rfl
        (try have hI := IsSets.step hI hb3 rfl)
        have hz := Nat.le_trans hz hb3.size
        (try have h4 := At.step h4 hb3 rfl)
        (try have h8 := At.step h8 hb3 rfl)
        (try have h6 := SetsRow.step h6 hb3 rfl)
        clear hb3
        try dsimp only
        have h4 := h4n
        clear h4n
        refine hK.out _ _ ?_ (fun hHeld => ?_)
        · exact hS
        clear hK K
        try simp only [Act.put, List.setIfInBounds_toArray, List.set_cons_zero, List.set_cons_succ]
        refine wpAnyH_ready (rs := [6]) (by kernel_rfl) (by simp) ?_
        refine AllReadyH.cons (o := ⟨some 49, _, _, _, _, _⟩) rfl (fun K hK => ?_) AllReadyH.nil
        refine step_append_any rfl _ _ 22 rfl _ _ rfl rfl (append_sets _ B0 g4 A n c l _ h4 hg4b hz hI hn) ?_
        rintro v6 w3 ⟨h6, hgr⟩
        have hS : SetAt w3 w.heap.size 33 s := At.grown hS hgr (by intro e; injection e with e; omega)
        have hB := below_grown hB (Nat.le_trans hWB hz) hgr (fun k hk => by injection hk with hk; omega)
        (try have h8 := At.grown h8 hgr (by intro e; injection e with e; exact hne e.symm))
        have hz := Nat.le_trans hz hgr.size
        clear hI h4 hgr
        refine hK.out _ _ ?_ (fun hHeld => ?_)
        · exact hS
        clear hK K
        try simp only [Act.put, List.setIfInBounds_toArray, List.set_cons_zero, List.set_cons_succ]
        refine wpAnyH_ready (rs := [9]) (by kernel_rfl) (by simp) ?_
        refine AllReadyH.cons (o := ⟨some 52, _, _, _, _, _⟩) rfl (fun K hK => ?_) AllReadyH.nil
        refine step_append_any rfl _ _ 22 rfl _ _ rfl rfl (append_set _ B0 g8 v6 l s _ h6 h8 hz hl30 hok hs) ?_
        rintro v9 w3 ⟨⟨g9, cap9, rfl, hI9⟩, hgr⟩
        have hrow : ∀ k, v6.ownBlock = some k → B0 ≤ k := fun k hk => (World.ownsRow.lt h6 k hk).1
        have hS : SetAt w3 w.heap.size 33 s := At.grown hS hgr (fun e => by have := hrow _ e.symm; omega)
        have hB := below_grown hB (Nat.le_trans hWB hz) hgr (fun k hk => Nat.le_trans hWB (hrow k hk))
        have hz := Nat.le_trans hz hgr.size
        clear h6 h8 hgr hrow
        refine hK.out _ _ ?_ (fun hHeld => ?_)
        · exact hS
        clear hK K
        try simp only [Act.put, List.setIfInBounds_toArray, List.set_cons_zero, List.set_cons_succ]
        refine wpAnyH_ready (rs := [10]) (by kernel_rfl) (by simp) ?_
        refine AllReadyH.cons (o := ⟨some 53, _, _, _, _, _⟩) rfl (fun K hK => ?_) AllReadyH.nil
        go_simp
        ((with_reducible refine (clMakeV (some ⟨g9, 0, none⟩) (l.length + 1) cap9 (l ++ [s]) ((Cl.make l).part s) (make_snoc l s) _ hI9).mono ?_))
        rintro e w3 ⟨rfl, hb3⟩
        have hS := hS.step hb3 rfl
        have hB := below_step hB hb3 rfl rfl rfl rfl
        (try have hI := IsSets.step hI hb3 rfl)
        have hz := Nat.le_trans hz hb3.size
        (try have h4 := At.step h4 hb3 rfl)
        (try have h8 := At.step h8 hb3 rfl)
        (try have h6 := SetsRow.step h6 hb3 rfl)
        clear hb3
        try dsimp only
        refine hK.out _ _ ?_ (fun hHeld => ?_)
        · exact hS
        clear hK K
        try simp only [Act.put, List.setIfInBounds_toArray, List.set_cons_zero, List.set_cons_succ]
        refine wpAnyH_take (i := 11) (oi := ⟨some 54, _, _, _, _, _⟩) (v := ?_) rfl (by kernel_rfl) (by kernel_rfl) (by kernel_rfl) (fun _ _ _ h => h) (Or.inl ⟨by rfl, ?_⟩) (by exact hHeld) ?_
        rotate_left
        · (intro w hSw; (try dsimp only at hSw); go_simp; try (with_reducible rfl))
        simp only [Act.put, List.setIfInBounds_toArray, List.set_cons_zero, List.set_cons_succ]
        refine wpAnyH_take (i := 12) (oi := ⟨some 6, _, _, _, _, _⟩) (v := ?_) rfl (by kernel_rfl) (by kernel_rfl) (by kernel_rfl) (fun _ _ _ h => h) (Or.inl ⟨by rfl, ?_⟩) (by exact hHeld) ?_
        rotate_left
        · (intro w hSw; (try dsimp only at hSw); go_simp; try (with_reducible rfl))
        simp only [Act.put, List.setIfInBounds_toArray, List.set_cons_zero, List.set_cons_succ]
        refine wpAnyH_done (by kernel_rfl) ?_ _
        refine NoPanic.normal ?_
        go_wp2_with fail
        go_ret
        exact ⟨rfl, hB⟩
    refine AllReadyH.cons (o := ⟨some 47, _, _, _, _, _⟩) rfl (fun K hK => ?_) ?_
    · refine step_slice0 rfl rfl (fun g4 w3 h4n hb3 hg4 => ?_)
      have hg4b : B0 ≤ g4 := Nat.le_trans hz hg4
      (try have hne : g4 ≠ g8 := Nat.ne_of_gt (Nat.lt_of_lt_of_le (At.lt h8) hg4))
      clear hg4
      have hS := hS.step hb3 rfl
      have hB := below_step hB hb3 rfl rfl rfl rfl
      (try have hI := IsSets.step hI hb3 rfl)
      have hz := Nat.le_trans hz hb3.size
      (try have h4 := At.step h4 hb3 rfl)
      (try have h8 := At.step h8 hb3 rfl)
      (try have h6 := SetsRow.step h6 hb3 rfl)
      clear hb3
      try dsimp only
      have h4 := h4n
      clear h4n
      refine hK.out _ _ ?_ (fun hHeld => ?_)
      · exact hS
      clear hK K
      try simp only [Act.put, List.setIfInBounds_toArray, List.set_cons_zero, List.set_cons_succ]
      refine wpAnyH_ready (rs := [3, 8]) (by kernel_rfl) (by simp) ?_
      refine AllReadyH.cons (o := ⟨some 46, _, _, _, _, _⟩) rfl (fun K hK => ?_) ?_
      · go_simp
        ((with_reducible refine (clRefineV (Cl.make l) (make_ok l) s hs ((Cl.make l).part s) (refine_yes (make_right l)) _).mono ?_))
        rintro e w3 ⟨rfl, hb3⟩
        have hS := hS.step hb3 rfl
        have hB := below_step hB hb3 rfl rfl rfl rfl
        (try have hI := IsSets.step hI hb3 rfl)
        have hz := Nat.le_trans hz hb3.size
        (try have h4 := At.step h4 hb3 rfl)
        (try have h8 := At.step h8 hb3 rfl)
        (try have h6 := SetsRow.step h6 hb3 rfl)
        clear hb3
        try dsimp only
        refine hK.out _ _ ?_ (fun hHeld => ?_)
        · exact hS
        clear hK K
        try simp only [Act.put, List.setIfInBounds_toArray, List.set_cons_zero, List.set_cons_succ]
        refine wpAnyH_ready (rs := [6, 8]) (by kernel_rfl) (by simp) ?_
        refine AllReadyH.cons (o := ⟨some 49, _, _, _, _, _⟩) rfl (fun K hK => ?_) ?_
        · refine step_append_any rfl _ _ 22 rfl _ _ rfl rfl (append_sets _ B0 g4 A n c l _ h4 hg4b hz hI hn) ?_
          rintro v6 w3 ⟨h6, hgr⟩
          have hS : SetAt w3 w.heap.size 33 s := At.grown hS hgr (by intro e; injection e with e; omega)
          have hB := below_grown hB (Nat.le_trans hWB hz) hgr (fun k hk => by injection hk with hk; omega)
          (try have h8 := At.grown h8 hgr (by intro e; injection e with e; exact hne e.symm))
          have hz := Nat.le_trans hz hgr.size
          clear hI h4 hgr
          refine hK.out _ _ ?_ (fun hHeld => ?_)
          · exact hS
          clear hK K
          try simp only [Act.put, List.setIfInBounds_toArray, List.set_cons_zero, List.set_cons_succ]
          refine wpAnyH_ready (rs := [8]) (by kernel_rfl) (by simp) ?_
          refine AllReadyH.cons (o := ⟨some 51, _, _, _, _, _⟩) rfl (fun K hK => ?_) AllReadyH.nil
          refine step_slice1 rfl _ s rfl rfl (fun g8 w3 h8n hb3 hg8 => ?_)
          (try have hne : g4 ≠ g8 := Nat.ne_of_lt (Nat.lt_of_lt_of_le (At.lt h4) hg8))
          clear hg8
          have hS := hS.step hb3 rfl
          have hB := below_step hB hb3 rfl rfl rfl rfl
          (try have hI := IsSets.step hI hb3 rfl)
          have hz := Nat.le_trans hz hb3.size
          (try have h4 := At.step h4 hb3 rfl)
          (try have h8 := At.step h8 hb3 rfl)
          (try have h6 := SetsRow.step h6 hb3 rfl)
          clear hb3
          try dsimp only
          have h8 := h8n
          clear h8n
          refine hK.out _ _ ?_ (fun hHeld => ?_)
          · exact hS
          clear hK K
          try simp only [Act.put, List.setIfInBounds_toArray, List.set_cons_zero, List.set_cons_succ]
          refine wpAnyH_ready (rs := [9]) (by kernel_rfl) (by simp) ?_
          refine AllReadyH.cons (o := ⟨some 52, _, _, _, _, _⟩) rfl (fun K hK => ?_) AllReadyH.nil
          refine step_append_any rfl _ _ 22 rfl _ _ rfl rfl (append_set _ B0 g8 v6 l s _ h6 h8 hz hl30 hok hs) ?_
          rintro v9 w3 ⟨⟨g9, cap9, rfl, hI9⟩, hgr⟩
          have hrow : ∀ k, v6.ownBlock = some k → B0 ≤ k := fun k hk => (World.ownsRow.lt h6 k hk).1
          have hS : SetAt w3 w.heap.size 33 s := At.grown hS hgr (fun e => by have := hrow _ e.symm; omega)
          have hB := below_grown hB (Nat.le_trans hWB hz) hgr (fun k hk => Nat.le_trans hWB (hrow k hk))
          have hz := Nat.le_trans hz hgr.size
          clear h6 h8 hgr hrow
          refine hK.out _ _ ?_ (fun hHeld => ?_)
          · exact hS
          clear hK K
          try simp only [Act.put, List.setIfInBounds_toArray, List.set_cons_zero, List.set_cons_succ]
          refine wpAnyH_ready (rs := [10]) (by kernel_rfl) (by simp) ?_
          refine AllReadyH.cons (o := ⟨some 53, _, _, _, _, _⟩) rfl (fun K hK => ?_) AllReadyH.nil
          go_simp
          ((with_reducible refine (clMakeV (some ⟨g9, 0, none⟩) (l.length + 1) cap9 (l ++ [s]) ((Cl.make l).part s) (make_snoc l s) _ hI9).mono ?_))
          rintro e w3 ⟨rfl, hb3⟩
          have hS := hS.step hb3 rfl
          have hB := below_step hB hb3 rfl rfl rfl rfl
          (try have hI := IsSets.step hI hb3 rfl)
          have hz := Nat.le_trans hz hb3.size
          (try have h4 := At.step h4 hb3 rfl)
          (try have h8 := At.step h8 hb3 rfl)
          (try have h6 := SetsRow.step h6 hb3 rfl)
          clear hb3
          try dsimp only
          refine hK.out _ _ ?_ (fun hHeld => ?_)
          · exact hS
          clear hK K
          try simp only [Act.put, List.setIfInBounds_toArray, List.set_cons_zero, List.set_cons_succ]
          refine wpAnyH_take (i := 11) (oi := ⟨some 54, _, _, _, _, _⟩) (v := ?_) rfl (by kernel_rfl) (by kernel_rfl) (by kernel_rfl) (fun _ _ _ h => h) (Or.inl ⟨by rfl, ?_⟩) (by exact hHeld) ?_
          rotate_left
          · (intro w hSw; (try dsimp only at hSw); go_simp; try (with_reducible rfl))
          simp only [Act.put, List.setIfInBounds_toArray, List.set_cons_zero, List.set_cons_succ]
          refine wpAnyH_take (i := 12) (oi := ⟨some 6, _, _, _, _, _⟩) (v := ?_) rfl (by kernel_rfl) (by kernel_rfl) (by kernel_rfl) (fun _ _ _ h => h) (Or.inl ⟨by rfl, ?_⟩) (by exact hHeld) ?_
          rotate_left
          · (intro w hSw; (try dsimp only at hSw); go_simp; try (with_reducible rfl))
          simp only [Act.put, List.setIfInBounds_toArray, List.set_cons_zero, List.set_cons_succ]
          refine wpAnyH_done (by kernel_rfl) ?_ _
          refine NoPanic.normal ?_
          go_wp2_with fail
          go_ret
          exact ⟨rfl, hB⟩
        refine AllReadyH.cons (o := ⟨some 51, _, _, _, _, _⟩) rfl (fun K hK => ?_) AllReadyH.nil
        · refine step_slice1 rfl _ s rfl rfl (fun g8 w3 h8n hb3 hg8 => ?_)
          (try have hne : g4 ≠ g8 := Nat.ne_of_lt (Nat.lt_of_lt_of_le (At.lt h4) hg8))
          clear hg8
          have hS := hS.step hb3 rfl
          have hB := below_step hB hb3 rfl rfl rfl rfl
          (try have hI := IsSets.step hI hb3 rfl)
          have hz := Nat.le_trans hz hb3.size
          (try have h4 := At.step h4 hb3 rfl)
          (try have h8 := At.step h8 hb3 rfl)
          (try have h6 := SetsRow.step h6 hb3 rfl)
          clear hb3
          try dsimp only
          have h8 := h8n
          clear h8n
          refine hK.out _ _ ?_ (fun hHeld => ?_)
          · exact hS
          clear hK K
          try simp only [Act.put, List.setIfInBounds_toArray, List.set_cons_zero, List.set_cons_succ]
          refine wpAnyH_ready (rs := [6]) (by kernel_rfl) (by simp) ?_
          refine AllReadyH.cons (o := ⟨some 49, _, _, _, _, _⟩) rfl (fun K hK => ?_) AllReadyH.nil
          refine step_append_any rfl _ _ 22 rfl _ _ rfl rfl (append_sets _ B0 g4 A n c l _ h4 hg4b hz hI hn) ?_
          rintro v6 w3 ⟨h6, hgr⟩
          have hS : SetAt w3 w.heap.size 33 s := At.grown hS hgr (by intro e; injection e with e; omega)
          have hB := below_grown hB (Nat.le_trans hWB hz) hgr (fun k hk => by injection hk with hk; omega)
          (try have h8 := At.grown h8 hgr (by intro e; injection e with e; exact hne e.symm))
          have hz := Nat.le_trans hz hgr.size
          clear hI h4 hgr
          refine hK.out _ _ ?_ (fun hHeld => ?_)
          · exact hS
          clear hK K
          try simp only [Act.put, List.setIfInBounds_toArray, List.set_cons_zero, List.set_cons_succ]
          refine wpAnyH_ready (rs := [9]) (by kernel_rfl) (by simp) ?_
          refine AllReadyH.cons (o := ⟨some 52, _, _, _, _, _⟩) rfl (fun K hK => ?_) AllReadyH.nil
          refine step_append_any rfl _ _ 22 rfl _ _ rfl rfl (append_set _ B0 g8 v6 l s _ h6 h8 hz hl30 hok hs) ?_
          rintro v9 w3 ⟨⟨g9, cap9, rfl, hI9⟩, hgr⟩
          have hrow : ∀ k, v6.ownBlock = some k → B0 ≤ k := fun k hk => (World.ownsRow.lt h6 k hk).1
          have hS : SetAt w3 w.heap.size 33 s := At.grown hS hgr (fun e => by have := hrow _ e.symm; omega)
          have hB := below_grown hB (Nat.le_trans hWB hz) hgr (fun k hk => Nat.le_trans hWB (hrow k hk))
          have hz := Nat.le_trans hz hgr.size
          clear h6 h8 hgr hrow
          refine hK.out _ _ ?_ (fun hHeld => ?_)
          · exact hS
          clear hK K
          try simp only [Act.put, List.setIfInBounds_toArray, List.set_cons_zero, List.set_cons_succ]
          refine wpAnyH_ready (rs := [10]) (by kernel_rfl) (by simp) ?_
          refine AllReadyH.cons (o := ⟨some 53, _, _, _, _, _⟩) rfl (fun K hK => ?_) AllReadyH.nil
          go_simp
          ((with_reducible refine (clMakeV (some ⟨g9, 0, none⟩) (l.length + 1) cap9 (l ++ [s]) ((Cl.make l).part s) (make_snoc l s) _ hI9).mono ?_))
          rintro e w3 ⟨rfl, hb3⟩
          have hS := hS.step hb3 rfl
          have hB := below_step hB hb3 rfl rfl rfl rfl
          (try have hI := IsSets.step hI hb3 rfl)
          have hz := Nat.le_trans hz hb3.size
          (try have h4 := At.step h4 hb3 rfl)
          (try have h8 := At.step h8 hb3 rfl)
          (try have h6 := SetsRow.step h6 hb3 rfl)
          clear hb3
          try dsimp only
          refine hK.out _ _ ?_ (fun hHeld => ?_)
          · exact hS
          clear hK K
          try simp only [Act.put, List.setIfInBounds_toArray, List.set_cons_zero, List.set_cons_succ]
          refine wpAnyH_take (i := 11) (oi := ⟨some 54, _, _, _, _, _⟩) (v := ?_) rfl (by kernel_rfl) (by kernel_rfl) (by kernel_rfl) (fun _ _ _ h => h) (Or.inl ⟨by rfl, ?_⟩) (by exact hHeld) ?_
          rotate_left
          · (intro w hSw; (try dsimp only at hSw); go_simp; try (with_reducible rfl))
          simp only [Act.put, List.setIfInBounds_toArray, List.set_cons_zero, List.set_cons_succ]
          refine wpAnyH_take (i := 12) (oi := ⟨some 6, _, _, _, _, _⟩) (v := ?_) rfl (by kernel_rfl) (by kernel_rfl) (by kernel_rfl) (fun _ _ _ h => h) (Or.inl ⟨by rfl, ?_⟩) (by exact hHeld) ?_
          rotate_left
          · (intro w hSw; (try dsimp only at hSw); go_simp; try (with_reducible rfl))
          simp only [Act.put, List.setIfInBounds_toArray, List.set_cons_zero, List.set_cons_succ]
          refine wpAnyH_done (by kernel_rfl) ?_ _
          refine NoPanic.normal ?_
          go_wp2_with fail
          go_ret
          exact ⟨rfl, hB⟩
      refine AllReadyH.cons (o := ⟨some 51, _, _, _, _, _⟩) rfl (fun K hK => ?_) AllReadyH.nil
      · refine step_slice1 rfl _ s rfl rfl (fun g8 w3 h8n hb3 hg8 => ?_)
        (try have hne : g4 ≠ g8 := Nat.ne_of_lt (Nat.lt_of_lt_of_le (At.lt h4) hg8))
        clear hg8
        have hS := hS.step hb3 rfl
        have hB := below_step hB hb3 rfl rfl rfl rfl
        (try have hI := IsSets.step hI hb3 rfl)
        have hz := Nat.le_trans hz hb3.size
        (try have h4 := At.step h4 hb3 rfl)
        (try have h8 := At.step h8 hb3 rfl)
        (try have h6 := SetsRow.step h6 hb3 rfl)
        clear hb3
        try dsimp only
        have h8 := h8n
        clear h8n
        refine hK.out _ _ ?_ (fun hHeld => ?_)
        · exact hS
        clear hK K
        try simp only [Act.put, List.setIfInBounds_toArray, List.set_cons_zero, List.set_cons_succ]
        refine wpAnyH_ready (rs := [3]) (by kernel_rfl) (by simp) ?_
        refine AllReadyH.cons (o := ⟨some 46, _, _, _, _, _⟩) rfl (fun K hK => ?_) AllReadyH.nil
        go_simp
        ((with_reducible refine (clRefineV (Cl.make l) (make_ok l) s hs ((Cl.make l).part s) (refine_yes (make_right l)) _).mono ?_))
        rintro e w3 ⟨rfl, hb3⟩
        have hS := hS.step hb3 rfl
        have hB := below_step hB hb3 rfl rfl rfl rfl
        (try have hI := IsSets.step hI hb3 rfl)
        have hz := Nat.le_trans hz hb3.size
        (try have h4 := At.step h4 hb3 rfl)
        (try have h8 := At.step h8 hb3 rfl)
        (try have h6 := SetsRow.step h6 hb3 rfl)
        clear hb3
        try dsimp only
        refine hK.out _ _ ?_ (fun hHeld => ?_)
        · exact hS
        clear hK K
        try simp only [Act.put, List.setIfInBounds_toArray, List.set_cons_zero, List.set_cons_succ]
        refine wpAnyH_ready (rs := [6]) (by kernel_rfl) (by simp) ?_
        refine AllReadyH.cons (o := ⟨some 49, _, _, _, _, _⟩) rfl (fun K hK => ?_) AllReadyH.nil
        refine step_append_any rfl _ _ 22 rfl _ _ rfl rfl (append_sets _ B0 g4 A n c l _ h4 hg4b hz hI hn) ?_
        rintro v6 w3 ⟨h6, hgr⟩
        have hS : SetAt w3 w.heap.size 33 s := At.grown hS hgr (by intro e; injection e with e; omega)
        have hB := below_grown hB (Nat.le_trans hWB hz) hgr (fun k hk => by injection hk with hk; omega)
        (try have h8 := At.grown h8 hgr (by intro e; injection e with e; exact hne e.symm))
        have hz := Nat.le_trans hz hgr.size
        clear hI h4 hgr
        refine hK.out _ _ ?_ (fun hHeld => ?_)
        · exact hS
        clear hK K
        try simp only [Act.put, List.setIfInBounds_toArray, List.set_cons_zero, List.set_cons_succ]
        refine wpAnyH_ready (rs := [9]) (by kernel_rfl) (by simp) ?_
        refine AllReadyH.cons (o := ⟨some 52, _, _, _, _, _⟩) rfl (fun K hK => ?_) AllReadyH.nil
        refine step_append_any rfl _ _ 22 rfl _ _ rfl rfl (append_set _ B0 g8 v6 l s _ h6 h8 hz hl30 hok hs) ?_
        rintro v9 w3 ⟨⟨g9, cap9, rfl, hI9⟩, hgr⟩
        have hrow : ∀ k, v6.ownBlock = some k → B0 ≤ k := fun k hk => (World.ownsRow.lt h6 k hk).1
        have hS : SetAt w3 w.heap.size 33 s := At.grown hS hgr (fun e => by have := hrow _ e.symm; omega)
        have hB := below_grown hB (Nat.le_trans hWB hz) hgr (fun k hk => Nat.le_trans hWB (hrow k hk))
        have hz := Nat.le_trans hz hgr.size
        clear h6 h8 hgr hrow
        refine hK.out _ _ ?_ (fun hHeld => ?_)
        · exact hS
        clear hK K
        try simp only [Act.put, List.setIfInBounds_toArray, List.set_cons_zero, List.set_cons_succ]
        refine wpAnyH_ready (rs := [10]) (by kernel_rfl) (by simp) ?_
        refine AllReadyH.cons (o := ⟨some 53, _, _, _, _, _⟩) rfl (fun K hK => ?_) AllReadyH.nil
        go_simp
        ((with_reducible refine (clMakeV (some ⟨g9, 0, none⟩) (l.length + 1) cap9 (l ++ [s]) ((Cl.make l).part s) (make_snoc l s) _ hI9).mono ?_))
        rintro e w3 ⟨rfl, hb3⟩
        have hS := hS.step hb3 rfl
        have hB := below_step hB hb3 rfl rfl rfl rfl
        (try have hI := IsSets.step hI hb3 rfl)
        have hz := Nat.le_trans hz hb3.size
        (try have h4 := At.step h4 hb3 rfl)
        (try have h8 := At.step h8 hb3 rfl)
        (try have h6 := SetsRow.step h6 hb3 rfl)
        clear hb3
        try dsimp only
        refine hK.out _ _ ?_ (fun hHeld => ?_)
        · exact hS
        clear hK K
        try simp only [Act.put, List.setIfInBounds_toArray, List.set_cons_zero, List.set_cons_succ]
        refine wpAnyH_take (i := 11) (oi := ⟨some 54, _, _, _, _, _⟩) (v := ?_) rfl (by kernel_rfl) (by kernel_rfl) (by kernel_rfl) (fun _ _ _ h => h) (Or.inl ⟨by rfl, ?_⟩) (by exact hHeld) ?_
        rotate_left
        · (intro w hSw; (try dsimp only at hSw); go_simp; try (with_reducible rfl))
        simp only [Act.put, List.setIfInBounds_toArray, List.set_cons_zero, List.set_cons_succ]
        refine wpAnyH_take (i := 12) (oi := ⟨some 6, _, _, _, _, _⟩) (v := ?_) rfl (by kernel_rfl) (by kernel_rfl) (by kernel_rfl) (fun _ _ _ h => h) (Or.inl ⟨by rfl, ?_⟩) (by exact hHeld) ?_
        rotate_left
        · (intro w hSw; (try dsimp only at hSw); go_simp; try (with_reducible rfl))
        simp only [Act.put, List.setIfInBounds_toArray, List.set_cons_zero, List.set_cons_succ]
        refine wpAnyH_done (by kernel_rfl) ?_ _
        refine NoPanic.normal ?_
        go_wp2_with fail
        go_ret
        exact ⟨rfl, hB⟩
    refine AllReadyH.cons (o := ⟨some 51, _, _, _, _, _⟩) rfl (fun K hK => ?_) AllReadyH.nil
    · refine step_slice1 rfl _ s rfl rfl (fun g8 w3 h8n hb3 hg8 => ?_)
      (try have hne : g4 ≠ g8 := Nat.ne_of_lt (Nat.lt_of_lt_of_le (At.lt h4) hg8))
      clear hg8
      have hS := hS.step hb3 rfl
      have hB := below_step hB hb3 rfl rfl rfl rfl
      (try have hI := IsSets.step hI hb3 rfl)
      have hz := Nat.le_trans hz hb3.size
      (try have h4 := At.step h4 hb3 rfl)
      (try have h8 := At.step h8 hb3 rfl)
      (try have h6 := SetsRow.step h6 hb3 rfl)
      clear hb3
      try dsimp only
      have h8 := h8n
      clear h8n
      refine hK.out _ _ ?_ (fun hHeld => ?_)
      · exact hS
      clear hK K
      try simp only [Act.put, List.setIfInBounds_toArray, List.set_cons_zero, List.set_cons_succ]
      refine wpAnyH_ready (rs := [3, 4]) (by kernel_rfl) (by simp) ?_
      refine AllReadyH.cons (o := ⟨some 46, _, _, _, _, _⟩) rfl (fun K hK => ?_) ?_
      · go_simp
        ((with_reducible refine (clRefineV (Cl.make l) (make_ok l) s hs ((Cl.make l).part s) (refine_yes (make_right l)) _).mono ?_))
        rintro e w3 ⟨rfl, hb3⟩
        have hS := hS.step hb3 rfl
        have hB := below_step hB hb3 rfl rfl rfl rfl
        (try have hI := IsSets.step hI hb3 rfl)
        have hz := Nat.le_trans hz hb3.size
        (try have h4 := At.step h4 hb3 rfl)
        (try have h8 := At.step h8 hb3 rfl)
        (try have h6 := SetsRow.step h6 hb3 rfl)
        clear hb3
        try dsimp only
        refine hK.out _ _ ?_ (fun hHeld => ?_)
        · exact hS
        clear hK K
        try simp only [Act.put, List.setIfInBounds_toArray, List.set_cons_zero, List.set_cons_succ]
        refine wpAnyH_ready (rs := [4]) (by kernel_rfl) (by simp) ?_
        refine AllReadyH.cons (o := ⟨some 47, _, _, _, _, _⟩) rfl (fun K hK => ?_) AllReadyH.nil
        refine step_slice0 rfl rfl (fun g4 w3 h4n hb3 hg4 => ?_)
        have hg4b : B0 ≤ g4 := Nat.le_trans hz hg4
        (try have hne : g4 ≠ g8 := Nat.ne_of_gt (Nat.lt_of_lt_of_le (At.lt h8) hg4))
        clear hg4
        have hS := hS.step hb3 rfl
        have hB := below_step hB hb3 rfl rfl rfl rfl
        (try have hI := IsSets.step hI hb3 rfl)
        have hz := Nat.le_trans hz hb3.size
        (try have h4 := At.step h4 hb3 rfl)
        (try have h8 := At.step h8 hb3 rfl)
        (try have h6 := SetsRow.step h6 hb3 rfl)
        clear hb3
        try dsimp only
        have h4 := h4n
        clear h4n
        refine hK.out _ _ ?_ (fun hHeld => ?_)
        · exact hS
        clear hK K
        try simp only [Act.put, List.setIfInBounds_toArray, List.set_cons_zero, List.set_cons_succ]
        refine wpAnyH_ready (rs := [6]) (by kernel_rfl) (by simp) ?_
        refine AllReadyH.cons (o := ⟨some 49, _, _, _, _, _⟩) rfl (fun K hK => ?_) AllReadyH.nil
        refine step_append_any rfl _ _ 22 rfl _ _ rfl rfl (append_sets _ B0 g4 A n c l _ h4 hg4b hz hI hn) ?_
        rintro v6 w3 ⟨h6, hgr⟩
        have hS : SetAt w3 w.heap.size 33 s := At.grown hS hgr (by intro e; injection e with e; omega)
        have hB := below_grown hB (Nat.le_trans hWB hz) hgr (fun k hk => by injection hk with hk; omega)
        (try have h8 := At.grown h8 hgr (by intro e; injection e with e; exact hne e.symm))
        have hz := Nat.le_trans hz hgr.size
        clear hI h4 hgr
        refine hK.out _ _ ?_ (fun hHeld => ?_)
        · exact hS
        clear hK K
        try simp only [Act.put, List.setIfInBounds_toArray, List.set_cons_zero, List.set_cons_succ]
        refine wpAnyH_ready (rs := [9]) (by kernel_rfl) (by simp) ?_
        refine AllReadyH.cons (o := ⟨some 52, _, _, _, _, _⟩) rfl (fun K hK => ?_) AllReadyH.nil
        refine step_append_any rfl _ _ 22 rfl _ _ rfl rfl (append_set _ B0 g8 v6 l s _ h6 h8 hz hl30 hok hs) ?_
        rintro v9 w3 ⟨⟨g9, cap9, rfl, hI9⟩, hgr⟩
        have hrow : ∀ k, v6.ownBlock = some k → B0 ≤ k := fun k hk => (World.ownsRow.lt h6 k hk).1
        have hS : SetAt w3 w.heap.size 33 s := At.grown hS hgr (fun e => by have := hrow _ e.symm; omega)
        have hB := below_grown hB (Nat.le_trans hWB hz) hgr (fun k hk => Nat.le_trans hWB (hrow k hk))
        have hz := Nat.le_trans hz hgr.size
        clear h6 h8 hgr hrow
        refine hK.out _ _ ?_ (fun hHeld => ?_)
        · exact hS
        clear hK K
        try simp only [Act.put, List.setIfInBounds_toArray, List.set_cons_zero, List.set_cons_succ]
        refine wpAnyH_ready (rs := [10]) (by kernel_rfl) (by simp) ?_
        refine AllReadyH.cons (o := ⟨some 53, _, _, _, _, _⟩) rfl (fun K hK => ?_) AllReadyH.nil
        go_simp
        ((with_reducible refine (clMakeV (some ⟨g9, 0, none⟩) (l.length + 1) cap9 (l ++ [s]) ((Cl.make l).part s) (make_snoc l s) _ hI9).mono ?_))
        rintro e w3 ⟨rfl, hb3⟩
        have hS := hS.step hb3 rfl
        have hB := below_step hB hb3 rfl rfl rfl rfl
        (try have hI := IsSets.step hI hb3 rfl)
        have hz := Nat.le_trans hz hb3.size
        (try have h4 := At.step h4 hb3 rfl)
        (try have h8 := At.step h8 hb3 rfl)
        (try have h6 := SetsRow.step h6 hb3 rfl)
        clear hb3
        try dsimp only
        refine hK.out _ _ ?_ (fun hHeld => ?_)
        · exact hS
        clear hK K
        try simp only [Act.put, List.setIfInBounds_toArray, List.set_cons_zero, List.set_cons_succ]
        refine wpAnyH_take (i := 11) (oi := ⟨some 54, _, _, _, _, _⟩) (v := ?_) rfl (by kernel_rfl) (by kernel_rfl) (by kernel_rfl) (fun _ _ _ h => h) (Or.inl ⟨by rfl, ?_⟩) (by exact hHeld) ?_
        rotate_left
        · (intro w hSw; (try dsimp only at hSw); go_simp; try (with_reducible rfl))
        simp only [Act.put, List.setIfInBounds_toArray, List.set_cons_zero, List.set_cons_succ]
        refine wpAnyH_take (i := 12) (oi := ⟨some 6, _, _, _, _, _⟩) (v := ?_) rfl (by kernel_rfl) (by kernel_rfl) (by kernel_rfl) (fun _ _ _ h => h) (Or.inl ⟨by rfl, ?_⟩) (by exact hHeld) ?_
        rotate_left
        · (intro w hSw; (try dsimp only at hSw); go_simp; try (with_reducible rfl))
        simp only [Act.put, List.setIfInBounds_toArray, List.set_cons_zero, List.set_cons_succ]
        refine wpAnyH_done (by kernel_rfl) ?_ _
        refine NoPanic.normal ?_
        go_wp2_with fail
        go_ret
        exact ⟨rfl, hB⟩
      refine AllReadyH.cons (o := ⟨some 47, _, _, _, _, _⟩) rfl (fun K hK => ?_) AllReadyH.nil
      · refine step_slice0 rfl rfl (fun g4 w3 h4n hb3 hg4 => ?_)
        have hg4b : B0 ≤ g4 := Nat.le_trans hz hg4
        (try have hne : g4 ≠ g8 := Nat.ne_of_gt (Nat.lt_of_lt_of_le (At.lt h8) hg4))
        clear hg4
        have hS := hS.step hb3 rfl
        have hB := below_step hB hb3 rfl rfl rfl rfl
        (try have hI := IsSets.step hI hb3 rfl)
        have hz := Nat.le_trans hz hb3.size
        (try have h4 := At.step h4 hb3 rfl)
        (try have h8 := At.step h8 hb3 rfl)
        (try have h6 := SetsRow.step h6 hb3 rfl)
        clear hb3
        try dsimp only
        have h4 := h4n
        clear h4n
        refine hK.out _ _ ?_ (fun hHeld => ?_)
        · exact hS
        clear hK K
        try simp only [Act.put, List.setIfInBounds_toArray, List.set_cons_zero, List.set_cons_succ]
        refine wpAnyH_ready (rs := [3]) (by kernel_rfl) (by simp) ?_
        refine AllReadyH.cons (o := ⟨some 46, _, _, _, _, _⟩) rfl (fun K hK => ?_) AllReadyH.nil
        go_simp
        ((with_reducible refine (clRefineV (Cl.make l) (make_ok l) s hs ((Cl.make l).part s) (refine_yes (make_right l)) _).mono ?_))
        rintro e w3 ⟨rfl, hb3⟩
        have hS := hS.step hb3 rfl
        have hB := below_step hB hb3 rfl rfl rfl rfl
        (try have hI := IsSets.step hI hb3 rfl)
        have hz := Nat.le_trans hz hb3.size
        (try have h4 := At.step h4 hb3 rfl)
        (try have h8 := At.step h8 hb3 rfl)
        (try have h6 := SetsRow.step h6 hb3 rfl)
        clear hb3
        try dsimp only
        refine hK.out _ _ ?_ (fun hHeld => ?_)
        · exact hS
        clear hK K
        try simp only [Act.put, List.setIfInBounds_toArray, List.set_cons_zero, List.set_cons_succ]
        refine wpAnyH_ready (rs := [6]) (by kernel_rfl) (by simp) ?_
        refine AllReadyH.cons (o := ⟨some 49, _, _, _, _, _⟩) rfl (fun K hK => ?_) AllReadyH.nil
        refine step_append_any rfl _ _ 22 rfl _ _ rfl rfl (append_sets _ B0 g4 A n c l _ h4 hg4b hz hI hn) ?_
        rintro v6 w3 ⟨h6, hgr⟩
        have hS : SetAt w3 w.heap.size 33 s := At.grown hS hgr (by intro e; injection e with e; omega)
        have hB := below_grown hB (Nat.le_trans hWB hz) hgr (fun k hk => by injection hk with hk; omega)
        (try have h8 := At.grown h8 hgr (by intro e; injection e with e; exact hne e.symm))
        have hz := Nat.le_trans hz hgr.size
        clear hI h4 hgr
        refine hK.out _ _ ?_ (fun hHeld => ?_)
        · exact hS
        clear hK K
        try simp only [Act.put, List.setIfInBounds_toArray, List.set_cons_zero, List.set_cons_succ]
        refine wpAnyH_ready (rs := [9]) (by kernel_rfl) (by simp) ?_
        refine AllReadyH.cons (o := ⟨some 52, _, _, _, _, _⟩) rfl (fun K hK => ?_) AllReadyH.nil
        refine step_append_any rfl _ _ 22 rfl _ _ rfl rfl (append_set _ B0 g8 v6 l s _ h6 h8 hz hl30 hok hs) ?_
        rintro v9 w3 ⟨⟨g9, cap9, rfl, hI9⟩, hgr⟩
        have hrow : ∀ k, v6.ownBlock = some k → B0 ≤ k := fun k hk => (World.ownsRow.lt h6 k hk).1
        have hS : SetAt w3 w.heap.size 33 s := At.grown hS hgr (fun e => by have := hrow _ e.symm; omega)
        have hB := below_grown hB (Nat.le_trans hWB hz) hgr (fun k hk => Nat.le_trans hWB (hrow k hk))
        have hz := Nat.le_trans hz hgr.size
        clear h6 h8 hgr hrow
        refine hK.out _ _ ?_ (fun hHeld => ?_)
        · exact hS
        clear hK K
        try simp only [Act.put, List.setIfInBounds_toArray, List.set_cons_zero, List.set_cons_succ]
        refine wpAnyH_ready (rs := [10]) (by kernel_rfl) (by simp) ?_
        refine AllReadyH.cons (o := ⟨some 53, _, _, _, _, _⟩) rfl (fun K hK => ?_) AllReadyH.nil
        go_simp
        ((with_reducible refine (clMakeV (some ⟨g9, 0, none⟩) (l.length + 1) cap9 (l ++ [s]) ((Cl.make l).part s) (make_snoc l s) _ hI9).mono ?_))
        rintro e w3 ⟨rfl, hb3⟩
        have hS := hS.step hb3 rfl
        have hB := below_step hB hb3 rfl rfl rfl rfl
        (try have hI := IsSets.step hI hb3 rfl)
        have hz := Nat.le_trans hz hb3.size
        (try have h4 := At.step h4 hb3 rfl)
        (try have h8 := At.step h8 hb3 rfl)
        (try have h6 := SetsRow.step h6 hb3 rfl)
        clear hb3
        try dsimp only
        refine hK.out _ _ ?_ (fun hHeld => ?_)
        · exact hS
        clear hK K
        try simp only [Act.put, List.setIfInBounds_toArray, List.set_cons_zero, List.set_cons_succ]
        refine wpAnyH_take (i := 11) (oi := ⟨some 54, _, _, _, _, _⟩) (v := ?_) rfl (by kernel_rfl) (by kernel_rfl) (by kernel_rfl) (fun _ _ _ h => h) (Or.inl ⟨by rfl, ?_⟩) (by exact hHeld) ?_
        rotate_left
        · (intro w hSw; (try dsimp only at hSw); go_simp; try (with_reducible rfl))
        simp only [Act.put, List.setIfInBounds_toArray, List.set_cons_zero, List.set_cons_succ]
        refine wpAnyH_take (i := 12) (oi := ⟨some 6, _, _, _, _, _⟩) (v := ?_) rfl (by kernel_rfl) (by kernel_rfl) (by kernel_rfl) (fun _ _ _ h => h) (Or.inl ⟨by rfl, ?_⟩) (by exact hHeld) ?_
        rotate_left
        · (intro w hSw; (try dsimp only at hSw); go_simp; try (with_reducible rfl))
        simp only [Act.put, List.setIfInBounds_toArray, List.set_cons_zero, List.set_cons_succ]
        refine wpAnyH_done (by kernel_rfl) ?_ _
        refine NoPanic.normal ?_
        go_wp2_with fail
        go_ret
        exact ⟨rfl, hB⟩
  refine AllReadyH.cons (o := ⟨some 47, _, _, _, _, _⟩) rfl (fun K hK => ?_) ?_
  · refine step_slice0 rfl rfl (fun g4 w3 h4n hb3 hg4 => ?_)
    have hg4b : B0 ≤ g4 := Nat.le_trans hz hg4
    (try have hne : g4 ≠ g8 := Nat.ne_of_gt (Nat.lt_of_lt_of_le (At.lt h8) hg4))
    clear hg4
    have hS := hS.step hb3 rfl
    have hB := below_step hB hb3 rfl rfl rfl rfl
    (try have hI := IsSets.step hI hb3 rfl)
    have hz := Nat.le_trans hz hb3.size
    (try have h4 := At.step h4 hb3 rfl)
    (try have h8 := At.step h8 hb3 rfl)
    (try have h6 := SetsRow.step h6 hb3 rfl)
    clear hb3
    try dsimp only
    have h4 := h4n
    clear h4n
    refine hK.out _ _ ?_ (fun hHeld => ?_)
    · exact hS
    clear hK K
    try simp only [Act.put, List.setIfInBounds_toArray, List.set_cons_zero, List.set_cons_succ]
    refine wpAnyH_ready (rs := [1, 8]) (by kernel_rfl) (by simp) ?_
    refine AllReadyH.cons (o := ⟨some 44, _, _, _, _, _⟩) rfl (fun K hK => ?_) ?_
    · go_simp
      ((with_reducible refine (clMake A n c l _ hI).mono ?_))
      rintro e w3 ⟨rfl, hb3⟩
      have hS := hS.step hb3 rfl
      have hB := below_step hB hb3 rfl rfl rfl rfl
      (try have hI := IsSets.step hI hb3 rfl)
      have hz := Nat.le_trans hz hb3.size
      (try have h4 := At.step h4 hb3 rfl)
      (try have h8 := At.step h8 hb3 rfl)
      (try have h6 := SetsRow.step h6 hb3 rfl)
      clear hb3
      try dsimp only
      refine hK.out _ _ ?_ (fun hHeld => ?_)
      · exact hS
      clear hK K
      try simp only [Act.put, List.setIfInBounds_toArray, List.set_cons_zero, List.set_cons_succ]
      refine wpAnyH_ready (rs := [3, 8]) (by kernel_rfl) (by simp) ?_
      refine AllReadyH.cons (o := ⟨some 46, _, _, _, _, _⟩) rfl (fun K hK => ?_) ?_
      · go_simp
        ((with_reducible refine (clRefineV (Cl.make l) (make_ok l) s hs ((Cl.make l).part s) (refine_yes (make_right l)) _).mono ?_))
        rintro e w3 ⟨rfl, hb3⟩
        have hS := hS.step hb3 rfl
        have hB := below_step hB hb3 rfl rfl rfl rfl
        (try have hI := IsSets.step hI hb3 rfl)
        have hz := Nat.le_trans hz hb3.size
        (try have h4 := At.step h4 hb3 rfl)
        (try have h8 := At.step h8 hb3 rfl)
        (try have h6 := SetsRow.step h6 hb3 rfl)
        clear hb3
        try dsimp only
        refine hK.out _ _ ?_ (fun hHeld => ?_)
        · exact hS
        clear hK K
        try simp only [Act.put, List.setIfInBounds_toArray, List.set_cons_zero, List.set_cons_succ]
        refine wpAnyH_ready (rs := [6, 8]) (by kernel_rfl) (by simp) ?_
        refine AllReadyH.cons (o := ⟨some 49, _, _, _, _, _⟩) rfl (fun K hK => ?_) ?_
        · refine step_append_any rfl _ _ 22 rfl _ _ rfl rfl (append_sets _ B0 g4 A n c l _ h4 hg4b hz hI hn) ?_
          rintro v6 w3 ⟨h6, hgr⟩
          have hS : SetAt w3 w.heap.size 33 s := At.grown hS hgr (by intro e; injection e with e; omega)
          have hB := below_grown hB (Nat.le_trans hWB hz) hgr (fun k hk => by injection hk with hk; omega)
          (try have h8 := At.grown h8 hgr (by intro e; injection e with e; exact hne e.symm))
          have hz := Nat.le_trans hz hgr.size
          clear hI h4 hgr
          refine hK.out _ _ ?_ (fun hHeld => ?_)
          · exact hS
          clear hK K
          try simp only [Act.put, List.setIfInBounds_toArray, List.set_cons_zero, List.set_cons_succ]
          refine wpAnyH_ready (rs := [8]) (by kernel_rfl) (by simp) ?_
          refine AllReadyH.cons (o := ⟨some 51, _, _, _, _, _⟩) rfl (fun K hK => ?_) AllReadyH.nil
          refine step_slice1 rfl _ s rfl rfl (fun g8 w3 h8n hb3 hg8 => ?_)
          (try have hne : g4 ≠ g8 := Nat.ne_of_lt (Nat.lt_of_lt_of_le (At.lt h4) hg8))
          clear hg8
          have hS := hS.step hb3 rfl
          have hB := below_step hB hb3 rfl rfl rfl rfl
          (try have hI := IsSets.step hI hb3 rfl)
          have hz := Nat.le_trans hz hb3.size
          (try have h4 := At.step h4 hb3 rfl)
          (try have h8 := At.step h8 hb3 rfl)
          (try have h6 := SetsRow.step h6 hb3 rfl)
          clear hb3
          try dsimp only
          have h8 := h8n
          clear h8n
          refine hK.out _ _ ?_ (fun hHeld => ?_)
          · exact hS
          clear hK K
          try simp only [Act.put, List.setIfInBounds_toArray, List.set_cons_zero, List.set_cons_succ]
          refine wpAnyH_ready (rs := [9]) (by kernel_rfl) (by simp) ?_
          refine AllReadyH.cons (o := ⟨some 52, _, _, _, _, _⟩) rfl (fun K hK => ?_) AllReadyH.nil
          refine step_append_any rfl _ _ 22 rfl _ _ rfl rfl (append_set _ B0 g8 v6 l s _ h6 h8 hz hl30 hok hs) ?_
          rintro v9 w3 ⟨⟨g9, cap9, rfl, hI9⟩, hgr⟩
          have hrow : ∀ k, v6.ownBlock = some k → B0 ≤ k := fun k hk => (World.ownsRow.lt h6 k hk).1
          have hS : SetAt w3 w.heap.size 33 s := At.grown hS hgr (fun e => by have := hrow _ e.symm; omega)
          have hB := below_grown hB (Nat.le_trans hWB hz) hgr (fun k hk => Nat.le_trans hWB (hrow k hk))
          have hz := Nat.le_trans hz hgr.size
          clear h6 h8 hgr hrow
          refine hK.out _ _ ?_ (fun hHeld => ?_)
          · exact hS
          clear hK K
          try simp only [Act.put, List.setIfInBounds_toArray, List.set_cons_zero, List.set_cons_succ]
          refine wpAnyH_ready (rs := [10]) (by kernel_rfl) (by simp) ?_
          refine AllReadyH.cons (o := ⟨some 53, _, _, _, _, _⟩) rfl (fun K hK => ?_) AllReadyH.nil
          go_simp
          ((with_reducible refine (clMakeV (some ⟨g9, 0, none⟩) (l.length + 1) cap9 (l ++ [s]) ((Cl.make l).part s) (make_snoc l s) _ hI9).mono ?_))
          rintro e w3 ⟨rfl, hb3⟩
          have hS := hS.step hb3 rfl
          have hB := below_step hB hb3 rfl rfl rfl rfl
          (try have hI := IsSets.step hI hb3 rfl)
          have hz := Nat.le_trans hz hb3.size
          (try have h4 := At.step h4 hb3 rfl)
          (try have h8 := At.step h8 hb3 rfl)
          (try have h6 := SetsRow.step h6 hb3 rfl)
          clear hb3
          try dsimp only
          refine hK.out _ _ ?_ (fun hHeld => ?_)
          · exact hS
          clear hK K
          try simp only [Act.put, List.setIfInBounds_toArray, List.set_cons_zero, List.set_cons_succ]
          refine wpAnyH_take (i := 11) (oi := ⟨some 54, _, _, _, _, _⟩) (v := ?_) rfl (by kernel_rfl) (by kernel_rfl) (by kernel_rfl) (fun _ _ _ h => h) (Or.inl ⟨by rfl, ?_⟩) (by exact hHeld) ?_
          rotate_left
          · (intro w hSw; (try dsimp only at hSw); go_simp; try (with_reducible rfl))
          simp only [Act.put, List.setIfInBounds_toArray, List.set_cons_zero, List.set_cons_succ]
          refine wpAnyH_take (i := 12) (oi := ⟨some 6, _, _, _, _, _⟩) (v := ?_) rfl (by kernel_rfl) (by kernel_rfl) (by kernel_rfl) (fun _ _ _ h => h) (Or.inl ⟨by rfl, ?_⟩) (by exact hHeld) ?_
          rotate_left
          · (intro w hSw; (try dsimp only at hSw); go_simp; try (with_reducible rfl))
          simp only [Act.put, List.setIfInBounds_toArray, List.set_cons_zero, List.set_cons_succ]
          refine wpAnyH_done (by kernel_rfl) ?_ _
          refine NoPanic.normal ?_
          go_wp2_with fail
          go_ret
          exact ⟨rfl, hB⟩
        refine AllReadyH.cons (o := ⟨some 51, _, _, _, _, _⟩) rfl (fun K hK => ?_) AllReadyH.nil
        · refine step_slice1 rfl _ s rfl rfl (fun g8 w3 h8n hb3 hg8 => ?_)
          (try have hne : g4 ≠ g8 := Nat.ne_of_lt (Nat.lt_of_lt_of_le (At.lt h4) hg8))
          clear hg8
          have hS := hS.step hb3 rfl
          have hB := below_step hB hb3 rfl rfl rfl rfl
          (try have hI := IsSets.step hI hb3 rfl)
          have hz := Nat.le_trans hz hb3.size
          (try have h4 := At.step h4 hb3 rfl)
          (try have h8 := At.step h8 hb3 rfl)
          (try have h6 := SetsRow.step h6 hb3 rfl)
          clear hb3
          try dsimp only
          have h8 := h8n
          clear h8n
          refine hK.out _ _ ?_ (fun hHeld => ?_)
          · exact hS
          clear hK K
          try simp only [Act.put, List.setIfInBounds_toArray, List.set_cons_zero, List.set_cons_succ]
          refine wpAnyH_ready (rs := [6]) (by kernel_rfl) (by simp) ?_
          refine AllReadyH.cons (o := ⟨some 49, _, _, _, _, _⟩) rfl (fun K hK => ?_) AllReadyH.nil
          refine step_append_any rfl _ _ 22 rfl _ _ rfl rfl (append_sets _ B0 g4 A n c l _ h4 hg4b hz hI hn) ?_
          rintro v6 w3 ⟨h6, hgr⟩
          have hS : SetAt w3 w.heap.size 33 s := At.grown hS hgr (by intro e; injection e with e; omega)
          have hB := below_grown hB (Nat.le_trans hWB hz) hgr (fun k hk => by injection hk with hk; omega)
          (try have h8 := At.grown h8 hgr (by intro e; injection e with e; exact hne e.symm))
          have hz := Nat.le_trans hz hgr.size
          clear hI h4 hgr
          refine hK.out _ _ ?_ (fun hHeld => ?_)
          · exact hS
          clear hK K
          try simp only [Act.put, List.setIfInBounds_toArray, List.set_cons_zero, List.set_cons_succ]
          refine wpAnyH_ready (rs := [9]) (by kernel_rfl) (by simp) ?_
          refine AllReadyH.cons (o := ⟨some 52, _, _, _, _, _⟩) rfl (fun K hK => ?_) AllReadyH.nil
          refine step_append_any rfl _ _ 22 rfl _ _ rfl rfl (append_set _ B0 g8 v6 l s _ h6 h8 hz hl30 hok hs) ?_
          rintro v9 w3 ⟨⟨g9, cap9, rfl, hI9⟩, hgr⟩
          have hrow : ∀ k, v6.ownBlock = some k → B0 ≤ k := fun k hk => (World.ownsRow.lt h6 k hk).1
          have hS : SetAt w3 w.heap.size 33 s := At.grown hS hgr (fun e => by have := hrow _ e.symm; omega)
          have hB := below_grown hB (Nat.le_trans hWB hz) hgr (fun k hk => Nat.le_trans hWB (hrow k hk))
          have hz := Nat.le_trans hz hgr.size
          clear h6 h8 hgr hrow
          refine hK.out _ _ ?_ (fun hHeld => ?_)
          · exact hS
          clear hK K
          try simp only [Act.put, List.setIfInBounds_toArray, List.set_cons_zero, List.set_cons_succ]
          refine wpAnyH_ready (rs := [10]) (by kernel_rfl) (by simp) ?_
          refine AllReadyH.cons (o := ⟨some 53, _, _, _, _, _⟩) rfl (fun K hK => ?_) AllReadyH.nil
          go_simp
          ((with_reducible refine (clMakeV (some ⟨g9, 0, none⟩) (l.length + 1) cap9 (l ++ [s]) ((Cl.make l).part s) (make_snoc l s) _ hI9).mono ?_))
          rintro e w3 ⟨rfl, hb3⟩
          have hS := hS.step hb3 rfl
          have hB := below_step hB hb3 rfl rfl rfl rfl
          (try have hI := IsSets.step hI hb3 rfl)
          have hz := Nat.le_trans hz hb3.size
          (try have h4 := At.step h4 hb3 rfl)
          (try have h8 := At.step h8 hb3 rfl)
          (try have h6 := SetsRow.step h6 hb3 rfl)
          clear hb3
          try dsimp only
          refine hK.out _ _ ?_ (fun hHeld => ?_)
          · exact hS
          clear hK K
          try simp only [Act.put, List.setIfInBounds_toArray, List.set_cons_zero, List.set_cons_succ]
          refine wpAnyH_take (i := 11) (oi := ⟨some 54, _, _, _, _, _⟩) (v := ?_) rfl (by kernel_rfl) (by kernel_rfl) (by kernel_rfl) (fun _ _ _ h => h) (Or.inl ⟨by rfl, ?_⟩) (by exact hHeld) ?_
          rotate_left
          · (intro w hSw; (try dsimp only at hSw); go_simp; try (with_reducible rfl))
          simp only [Act.put, List.setIfInBounds_toArray, List.set_cons_zero, List.set_cons_succ]
          refine wpAnyH_take (i := 12) (oi := ⟨some 6, _, _, _, _, _⟩) (v := ?_) rfl (by kernel_rfl) (by kernel_rfl) (by kernel_rfl) (fun _ _ _ h => h) (Or.inl ⟨by rfl, ?_⟩) (by exact hHeld) ?_
          rotate_left
          · (intro w hSw; (try dsimp only at hSw); go_simp; try (with_reducible rfl))
          simp only [Act.put, List.setIfInBounds_toArray, List.set_cons_zero, List.set_cons_succ]
          refine wpAnyH_done (by kernel_rfl) ?_ _
          refine NoPanic.normal ?_
          go_wp2_with fail
          go_ret
          exact ⟨rfl, hB⟩
      refine AllReadyH.cons (o := ⟨some 51, _, _, _, _, _⟩) rfl (fun K hK => ?_) AllReadyH.nil
      · refine step_slice1 rfl _ s rfl rfl (fun g8 w3 h8n hb3 hg8 => ?_)
        (try have hne : g4 ≠ g8 := Nat.ne_of_lt (Nat.lt_of_lt_of_le (At.lt h4) hg8))
        clear hg8
        have hS := hS.step hb3 rfl
        have hB := below_step hB hb3 rfl rfl rfl rfl
        (try have hI := IsSets.step hI hb3 rfl)
        have hz := Nat.le_trans hz hb3.size
        (try have h4 := At.step h4 hb3 rfl)
        (try have h8 := At.step h8 hb3 rfl)
        (try have h6 := SetsRow.step h6 hb3 rfl)
        clear hb3
        try dsimp only
        have h8 := h8n
        clear h8n
        refine hK.out _ _ ?_ (fun hHeld => ?_)
        · exact hS
        clear hK K
        try simp only [Act.put, List.setIfInBounds_toArray, List.set_cons_zero, List.set_cons_succ]
        refine wpAnyH_ready (rs := [3]) (by kernel_rfl) (by simp) ?_
        refine AllReadyH.cons (o := ⟨some 46, _, _, _, _, _⟩) rfl (fun K hK => ?_) AllReadyH.nil
        go_simp
        ((with_reducible refine (clRefineV (Cl.make l) (make_ok l) s hs ((Cl.make l).part s) (refine_yes (make_right l)) _).mono ?_))
        rintro e w3 ⟨rfl, hb3⟩
        have hS := hS.step hb3 rfl
        have hB := below_step hB hb3 rfl rfl rfl rfl
        (try have hI := IsSets.step hI hb3 rfl)
        have hz := Nat.le_trans hz hb3.size
        (try have h4 := At.step h4 hb3 rfl)
        (try have h8 := At.step h8 hb3 rfl)
        (try have h6 := SetsRow.step h6 hb3 rfl)
        clear hb3
        try dsimp only
        refine hK.out _ _ ?_ (fun hHeld => ?_)
        · exact hS
        clear hK K
        try simp only [Act.put, List.setIfInBounds_toArray, List.set_cons_zero, List.set_cons_succ]
        refine wpAnyH_ready (rs := [6]) (by kernel_rfl) (by simp) ?_
        refine AllReadyH.cons (o := ⟨some 49, _, _, _, _, _⟩) rfl (fun K hK => ?_) AllReadyH.nil
        refine step_append_any rfl _ _ 22 rfl _ _ rfl rfl (append_sets _ B0 g4 A n c l _ h4 hg4b hz hI hn) ?_
        rintro v6 w3 ⟨h6, hgr⟩
        have hS : SetAt w3 w.heap.size 33 s := At.grown hS hgr (by intro e; injection e with e; omega)
        have hB := below_grown hB (Nat.le_trans hWB hz) hgr (fun k hk => by injection hk with hk; omega)
        (try have h8 := At.grown h8 hgr (by intro e; injection e with e; exact hne e.symm))
        have hz := Nat.le_trans hz hgr.size
        clear hI h4 hgr
        refine hK.out _ _ ?_ (fun hHeld => ?_)
        · exact hS
        clear hK K
        try simp only [Act.put, List.setIfInBounds_toArray, List.set_cons_zero, List.set_cons_succ]
        refine wpAnyH_ready (rs := [9]) (by kernel_rfl) (by simp) ?_
        refine AllReadyH.cons (o := ⟨some 52, _, _, _, _, _⟩) rfl (fun K hK => ?_) AllReadyH.nil
        refine step_append_any rfl _ _ 22 rfl _ _ rfl rfl (append_set _ B0 g8 v6 l s _ h6 h8 hz hl30 hok hs) ?_
        rintro v9 w3 ⟨⟨g9, cap9, rfl, hI9⟩, hgr⟩
        have hrow : ∀ k, v6.ownBlock = some k → B0 ≤ k := fun k hk => (World.ownsRow.lt h6 k hk).1
        have hS : SetAt w3 w.heap.size 33 s := At.grown hS hgr (fun e => by have := hrow _ e.symm; omega)
        have hB := below_grown hB (Nat.le_trans hWB hz) hgr (fun k hk => Nat.le_trans hWB (hrow k hk))
        have hz := Nat.le_trans hz hgr.size
        clear h6 h8 hgr hrow
        refine hK.out _ _ ?_ (fun hHeld => ?_)
        · exact hS
        clear hK K
        try simp only [Act.put, List.setIfInBounds_toArray, List.set_cons_zero, List.set_cons_succ]
        refine wpAnyH_ready (rs := [10]) (by kernel_rfl) (by simp) ?_
        refine AllReadyH.cons (o := ⟨some 53, _, _, _, _, _⟩) rfl (fun K hK => ?_) AllReadyH.nil
        go_simp
        ((with_reducible refine (clMakeV (some ⟨g9, 0, none⟩) (l.length + 1) cap9 (l ++ [s]) ((Cl.make l).part s) (make_snoc l s) _ hI9).mono ?_))
        rintro e w3 ⟨rfl, hb3⟩
        have hS := hS.step hb3 rfl
        have hB := below_step hB hb3 rfl rfl rfl rfl
        (try have hI := IsSets.step hI hb3 rfl)
        have hz := Nat.le_trans hz hb3.size
        (try have h4 := At.step h4 hb3 rfl)
        (try have h8 := At.step h8 hb3 rfl)
        (try have h6 := SetsRow.step h6 hb3 rfl)
        clear hb3
        try dsimp only
        refine hK.out _ _ ?_ (fun hHeld => ?_)
        · exact hS
        clear hK K
        try simp only [Act.put, List.setIfInBounds_toArray, List.set_cons_zero, List.set_cons_succ]
        refine wpAnyH_take (i := 11) (oi := ⟨some 54, _, _, _, _, _⟩) (v := ?_) rfl (by kernel_rfl) (by kernel_rfl) (by kernel_rfl) (fun _ _ _ h => h) (Or.inl ⟨by rfl, ?_⟩) (by exact hHeld) ?_
        rotate_left
        · (intro w hSw; (try dsimp only at hSw); go_simp; try (with_reducible rfl))
        simp only [Act.put, List.setIfInBounds_toArray, List.set_cons_zero, List.set_cons_succ]
        refine wpAnyH_take (i := 12) (oi := ⟨some 6, _, _, _, _, _⟩) (v := ?_) rfl (by kernel_rfl) (by kernel_rfl) (by kernel_rfl) (fun _ _ _ h => h) (Or.inl ⟨by rfl, ?_⟩) (by exact hHeld) ?_
        rotate_left
        · (intro w hSw; (try dsimp only at hSw); go_simp; try (with_reducible rfl))
        simp only [Act.put, List.setIfInBounds_toArray, List.set_cons_zero, List.set_cons_succ]
        refine wpAnyH_done (by kernel_rfl) ?_ _
        refine NoPanic.normal ?_
        go_wp2_with fail
        go_ret
        exact ⟨rfl, hB⟩
    refine AllReadyH.cons (o := ⟨some 51, _, _, _, _, _⟩) rfl (fun K hK => ?_) AllReadyH.nil
    · refine step_slice1 rfl _ s rfl rfl (fun g8 w3 h8n hb3 hg8 => ?_)
      (try have hne : g4 ≠ g8 := Nat.ne_of_lt (Nat.lt_of_lt_of_le (At.lt h4) hg8))
      clear hg8
      have hS := hS.step hb3 rfl
      have hB := below_step hB hb3 rfl rfl rfl rfl
      (try have hI := IsSets.step hI hb3 rfl)
      have hz := Nat.le_trans hz hb3.size
      (try have h4 := At.step h4 hb3 rfl)
      (try have h8 := At.step h8 hb3 rfl)
      (try have h6 := SetsRow.step h6 hb3 rfl)
      clear hb3
      try dsimp only
      have h8 := h8n
      clear h8n
      refine hK.out _ _ ?_ (fun hHeld => ?_)
      · exact hS
      clear hK K
      try simp only [Act.put, List.setIfInBounds_toArray, List.set_cons_zero, List.set_cons_succ]
      refine wpAnyH_ready (rs := [1]) (by kernel_rfl) (by simp) ?_
      refine AllReadyH.cons (o := ⟨some 44, _, _, _, _, _⟩) rfl (fun K hK => ?_) AllReadyH.nil
      go_simp
      ((with_reducible refine (clMake A n c l _ hI).mono ?_))
      rintro e w3 ⟨rfl, hb3⟩
      have hS := hS.step hb3 rfl
      have hB := below_step hB hb3 rfl rfl rfl rfl
      (try have hI := IsSets.step hI hb3 rfl)
      have hz := Nat.le_trans hz hb3.size
      (try have h4 := At.step h4 hb3 rfl)
      (try have h8 := At.step h8 hb3 rfl)
      (try have h6 := SetsRow.step h6 hb3 rfl)
      clear hb3
      try dsimp only
      refine hK.out _ _ ?_ (fun hHeld => ?_)
      · exact hS
      clear hK K
      try simp only [Act.put, List.setIfInBounds_toArray, List.set_cons_zero, List.set_cons_succ]
      refine wpAnyH_ready (rs := [3]) (by kernel_rfl) (by simp) ?_
      refine AllReadyH.cons (o := ⟨some 46, _, _, _, _, _⟩) rfl (fun K hK => ?_) AllReadyH.nil
      go_simp
      ((with_reducible refine (clRefineV (Cl.make l) (make_ok l) s hs ((Cl.make l).part s) (refine_yes (make_right l)) _).mono ?_))
      rintro e w3 ⟨rfl, hb3⟩
      have hS := hS.step hb3 rfl
      have hB := below_step hB hb3 rfl rfl rfl rfl
      (try have hI := IsSets.step hI hb3 rfl)
      have hz := Nat.le_trans hz hb3.size
      (try have h4 := At.step h4 hb3 rfl)
      (try have h8 := At.step h8 hb3 rfl)
      (try have h6 := SetsRow.step h6 hb3 rfl)
      clear hb3
      try dsimp only
      refine hK.out _ _ ?_ (fun hHeld => ?_)
      · exact hS
      clear hK K
      try simp only [Act.put, List.setIfInBounds_toArray, List.set_cons_zero, List.set_cons_succ]
      refine wpAnyH_ready (rs := [6]) (by kernel_rfl) (by simp) ?_
      refine AllReadyH.cons (o := ⟨some 49, _, _, _, _, _⟩) rfl (fun K hK => ?_) AllReadyH.nil
      refine step_append_any rfl _ _ 22 rfl _ _ rfl rfl (append_sets _ B0 g4 A n c l _ h4 hg4b hz hI hn) ?_
      rintro v6 w3 ⟨h6, hgr⟩
      have hS : SetAt w3 w.heap.size 33 s := At.grown hS hgr (by intro e; injection e with e; omega)
      have hB := below_grown hB (Nat.le_trans hWB hz) hgr (fun k hk => by injection hk with hk; omega)
      (try have h8 := At.grown h8 hgr (by intro e; injection e with e; exact hne e.symm))
      have hz := Nat.le_trans hz hgr.size
      clear hI h4 hgr
      refine hK.out _ _ ?_ (fun hHeld => ?_)
      · exact hS
      clear hK K
      try simp only [Act.put, List.setIfInBounds_toArray, List.set_cons_zero, List.set_cons_succ]
      refine wpAnyH_ready (rs := [9]) (by kernel_rfl) (by simp) ?_
      refine AllReadyH.cons (o := ⟨some 52, _, _, _, _, _⟩) rfl (fun K hK => ?_) AllReadyH.nil
      refine step_append_any rfl _ _ 22 rfl _ _ rfl rfl (append_set _ B0 g8 v6 l s _ h6 h8 hz hl30 hok hs) ?_
      rintro v9 w3 ⟨⟨g9, cap9, rfl, hI9⟩, hgr⟩
      have hrow : ∀ k, v6.ownBlock = some k → B0 ≤ k := fun k hk => (World.ownsRow.lt h6 k hk).1
      have hS : SetAt w3 w.heap.size 33 s := At.grown hS hgr (fun e => by have := hrow _ e.symm; omega)
      have hB := below_grown hB (Nat.le_trans hWB hz) hgr (fun k hk => Nat.le_trans hWB (hrow k hk))
      have hz := Nat.le_trans hz hgr.size
      clear h6 h8 hgr hrow
      refine hK.out _ _ ?_ (fun hHeld => ?_)
      · exact hS
      clear hK K
      try simp only [Act.put, List.setIfInBounds_toArray, List.set_cons_zero, List.set_cons_succ]
      refine wpAnyH_ready (rs := [10]) (by kernel_rfl) (by simp) ?_
      refine AllReadyH.cons (o := ⟨some 53, _, _, _, _, _⟩) rfl (fun K hK => ?_) AllReadyH.nil
      go_simp
      ((with_reducible refine (clMakeV (some ⟨g9, 0, none⟩) (l.length + 1) cap9 (l ++ [s]) ((Cl.make l).part s) (make_snoc l s) _ hI9).mono ?_))
      rintro e w3 ⟨rfl, hb3⟩
      have hS := hS.step hb3 rfl
      have hB := below_step hB hb3 rfl rfl rfl rfl
      (try have hI := IsSets.step hI hb3 rfl)
      have hz := Nat.le_trans hz hb3.size
      (try have h4 := At.step h4 hb3 rfl)
      (try have h8 := At.step h8 hb3 rfl)
      (try have h6 := SetsRow.step h6 hb3 rfl)
      clear hb3
      try dsimp only
      refine hK.out _ _ ?_ (fun hHeld => ?_)
      · exact hS
      clear hK K
      try simp only [Act.put, List.setIfInBounds_toArray, List.set_cons_zero, List.set_cons_succ]
      refine wpAnyH_take (i := 11) (oi := ⟨some 54, _, _, _, _, _⟩) (v := ?_) rfl (by kernel_rfl) (by kernel_rfl) (by kernel_rfl) (fun _ _ _ h => h) (Or.inl ⟨by rfl, ?_⟩) (by exact hHeld) ?_
      rotate_left
      · (intro w hSw; (try dsimp only at hSw); go_simp; try (with_reducible rfl))
      simp only [Act.put, List.setIfInBounds_toArray, List.set_cons_zero, List.set_cons_succ]
      refine wpAnyH_take (i := 12) (oi := ⟨some 6, _, _, _, _, _⟩) (v := ?_) rfl (by kernel_rfl) (by kernel_rfl) (by kernel_rfl) (fun _ _ _ h => h) (Or.inl ⟨by rfl, ?_⟩) (by exact hHeld) ?_
      rotate_left
      · (intro w hSw; (try dsimp only at hSw); go_simp; try (with_reducible rfl))
      simp only [Act.put, List.setIfInBounds_toArray, List.set_cons_zero, List.set_cons_succ]
      refine wpAnyH_done (by kernel_rfl) ?_ _
      refine NoPanic.normal ?_
      go_wp2_with fail
      go_ret
      exact ⟨rfl, hB⟩
  refine AllReadyH.cons (o := ⟨some 51, _, _, _, _, _⟩) rfl (fun K hK => ?_) AllReadyH.nil
  · refine step_slice1 rfl _ s rfl rfl (fun g8 w3 h8n hb3 hg8 => ?_)
    (try have hne : g4 ≠ g8 := Nat.ne_of_lt (Nat.lt_of_lt_of_le (At.lt h4) hg8))
    clear hg8
    have hS := hS.step hb3 rfl
    have hB := below_step hB hb3 rfl rfl rfl rfl
    (try have hI := IsSets.step hI hb3 rfl)
    have hz := Nat.le_trans hz hb3.size
    (try have h4 := At.step h4 hb3 rfl)
    (try have h8 := At.step h8 hb3 rfl)
    (try have h6 := SetsRow.step h6 hb3 rfl)
    clear hb3
    try dsimp only
    have h8 := h8n
    clear h8n
    refine hK.out _ _ ?_ (fun hHeld => ?_)
    · exact hS
    clear hK K
    try simp only [Act.put, List.setIfInBounds_toArray, List.set_cons_zero, List.set_cons_succ]
    refine wpAnyH_ready (rs := [1, 4]) (by kernel_rfl) (by simp) ?_
    refine AllReadyH.cons (o := ⟨some 44, _, _, _, _, _⟩) rfl (fun K hK => ?_) ?_
    · go_simp
      ((with_reducible refine (clMake A n c l _ hI).mono ?_))
      rintro e w3 ⟨rfl, hb3⟩
      have hS := hS.step hb3 rfl
      have hB := below_step hB hb3 rfl rfl rfl rfl
      (try have hI := IsSets.step hI hb3 rfl)
      have hz := Nat.le_trans hz hb3.size
      (try have h4 := At.step h4 hb3 rfl)
      (try have h8 := At.step h8 hb3 rfl)
      (try have h6 := SetsRow.step h6 hb3 rfl)
      clear hb3
      try dsimp only
      refine hK.out _ _ ?_ (fun hHeld => ?_)
      · exact hS
      clear hK K
      try simp only [Act.put, List.setIfInBounds_toArray, List.set_cons_zero, List.set_cons_succ]
      refine wpAnyH_ready (rs := [3, 4]) (by kernel_rfl) (by simp) ?_
      refine AllReadyH.cons (o := ⟨some 46, _, _, _, _, _⟩) rfl (fun K hK => ?_) ?_
      · go_simp
        ((with_reducible refine (clRefineV (Cl.make l) (make_ok l) s hs ((Cl.make l).part s) (refine_yes (make_right l)) _).mono ?_))
        rintro e w3 ⟨rfl, hb3⟩
        have hS := hS.step hb3 rfl
        have hB := below_step hB hb3 rfl rfl rfl rfl
        (try have hI := IsSets.step hI hb3 rfl)
        have hz := Nat.le_trans hz hb3.size
        (try have h4 := At.step h4 hb3 rfl)
        (try have h8 := At.step h8 hb3 rfl)
        (try have h6 := SetsRow.step h6 hb3 rfl)
        clear hb3
        try dsimp only
        refine hK.out _ _ ?_ (fun hHeld => ?_)
        · exact hS
        clear hK K
        try simp only [Act.put, List.setIfInBounds_toArray, List.set_cons_zero, List.set_cons_succ]
        refine wpAnyH_ready (rs := [4]) (by kernel_rfl) (by simp) ?_
        refine AllReadyH.cons (o := ⟨some 47, _, _, _, _, _⟩) rfl (fun K hK => ?_) AllReadyH.nil
        refine step_slice0 rfl rfl (fun g4 w3 h4n hb3 hg4 => ?_)
        have hg4b : B0 ≤ g4 := Nat.le_trans hz hg4
        (try have hne : g4 ≠ g8 := Nat.ne_of_gt (Nat.lt_of_lt_of_le (At.lt h8) hg4))
        clear hg4
        have hS := hS.step hb3 rfl
        have hB := below_step hB hb3 rfl rfl rfl rfl
        (try have hI := IsSets.step hI hb3 rfl)
        have hz := Nat.le_trans hz hb3.size
        (try have h4 := At.step h4 hb3 rfl)
        (try have h8 := At.step h8 hb3 rfl)
        (try have h6 := SetsRow.step h6 hb3 rfl)
        clear hb3
        try dsimp only
        have h4 := h4n
        clear h4n
        refine hK.out _ _ ?_ (fun hHeld => ?_)
        · exact hS
        clear hK K
        try simp only [Act.put, List.setIfInBounds_toArray, List.set_cons_zero, List.set_cons_succ]
        refine wpAnyH_ready (rs := [6]) (by kernel_rfl) (by simp) ?_
        refine AllReadyH.cons (o := ⟨some 49, _, _, _, _, _⟩) rfl (fun K hK => ?_) AllReadyH.nil
        refine step_append_any rfl _ _ 22 rfl _ _ rfl rfl (append_sets _ B0 g4 A n c l _ h4 hg4b hz hI hn) ?_
        rintro v6 w3 ⟨h6, hgr⟩
        have hS : SetAt w3 w.heap.size 33 s := At.grown hS hgr (by intro e; injection e with e; omega)
        have hB := below_grown hB (Nat.le_trans hWB hz) hgr (fun k hk => by injection hk with hk; omega)
        (try have h8 := At.grown h8 hgr (by intro e; injection e with e; exact hne e.symm))
        have hz := Nat.le_trans hz hgr.size
        clear hI h4 hgr
        refine hK.out _ _ ?_ (fun hHeld => ?_)
        · exact hS
        clear hK K
        try simp only [Act.put, List.setIfInBounds_toArray, List.set_cons_zero, List.set_cons_succ]
        refine wpAnyH_ready (rs := [9]) (by kernel_rfl) (by simp) ?_
        refine AllReadyH.cons (o := ⟨some 52, _, _, _, _, _⟩) rfl (fun K hK => ?_) AllReadyH.nil
        refine step_append_any rfl _ _ 22 rfl _ _ rfl rfl (append_set _ B0 g8 v6 l s _ h6 h8 hz hl30 hok hs) ?_
        rintro v9 w3 ⟨⟨g9, cap9, rfl, hI9⟩, hgr⟩
        have hrow : ∀ k, v6.ownBlock = some k → B0 ≤ k := fun k hk => (World.ownsRow.lt h6 k hk).1
        have hS : SetAt w3 w.heap.size 33 s := At.grown hS hgr (fun e => by have := hrow _ e.symm; omega)
        have hB := below_grown hB (Nat.le_trans hWB hz) hgr (fun k hk => Nat.le_trans hWB (hrow k hk))
        have hz := Nat.le_trans hz hgr.size
        clear h6 h8 hgr hrow
        refine hK.out _ _ ?_ (fun hHeld => ?_)
        · exact hS
        clear hK K
        try simp only [Act.put, List.setIfInBounds_toArray, List.set_cons_zero, List.set_cons_succ]
        refine wpAnyH_ready (rs := [10]) (by kernel_rfl) (by simp) ?_
        refine AllReadyH.cons (o := ⟨some 53, _, _, _, _, _⟩) rfl (fun K hK => ?_) AllReadyH.nil
        go_simp
        ((with_reducible refine (clMakeV (some ⟨g9, 0, none⟩) (l.length + 1) cap9 (l ++ [s]) ((Cl.make l).part s) (make_snoc l s) _ hI9).mono ?_))
        rintro e w3 ⟨rfl, hb3⟩
        have hS := hS.step hb3 rfl
        have hB := below_step hB hb3 rfl rfl rfl rfl
        (try have hI := IsSets.step hI hb3 rfl)
        have hz := Nat.le_trans hz hb3.size
        (try have h4 := At.step h4 hb3 rfl)
        (try have h8 := At.step h8 hb3 rfl)
        (try have h6 := SetsRow.step h6 hb3 rfl)
        clear hb3
        try dsimp only
        refine hK.out _ _ ?_ (fun hHeld => ?_)
        · exact hS
        clear hK K
        try simp only [Act.put, List.setIfInBounds_toArray, List.set_cons_zero, List.set_cons_succ]
        refine wpAnyH_take (i := 11) (oi := ⟨some 54, _, _, _, _, _⟩) (v := ?_) rfl (by kernel_rfl) (by kernel_rfl) (by kernel_rfl) (fun _ _ _ h => h) (Or.inl ⟨by rfl, ?_⟩) (by exact hHeld) ?_
        rotate_left
        · (intro w hSw; (try dsimp only at hSw); go_simp; try (with_reducible rfl))
        simp only [Act.put, List.setIfInBounds_toArray, List.set_cons_zero, List.set_cons_succ]
        refine wpAnyH_take (i := 12) (oi := ⟨some 6, _, _, _, _, _⟩) (v := ?_) rfl (by kernel_rfl) (by kernel_rfl) (by kernel_rfl) (fun _ _ _ h => h) (Or.inl ⟨by rfl, ?_⟩) (by exact hHeld) ?_
        rotate_left
        · (intro w hSw; (try dsimp only at hSw); go_simp; try (with_reducible rfl))
        simp only [Act.put, List.setIfInBounds_toArray, List.set_cons_zero, List.set_cons_succ]
        refine wpAnyH_done (by kernel_rfl) ?_ _
        refine NoPanic.normal ?_
        go_wp2_with fail
        go_ret
        exact ⟨rfl, hB⟩
      refine AllReadyH.cons (o := ⟨some 47, _, _, _, _, _⟩) rfl (fun K hK => ?_) AllReadyH.nil
      · refine step_slice0 rfl rfl (fun g4 w3 h4n hb3 hg4 => ?_)
        have hg4b : B0 ≤ g4 := Nat.le_trans hz hg4
        (try have hne : g4 ≠ g8 := Nat.ne_of_gt (Nat.lt_of_lt_of_le (At.lt h8) hg4))
        clear hg4
        have hS := hS.step hb3 rfl
        have hB := below_step hB hb3 rfl rfl rfl rfl
        (try have hI := IsSets.step hI hb3 rfl)
        have hz := Nat.le_trans hz hb3.size
        (try have h4 := At.step h4 hb3 rfl)
        (try have h8 := At.step h8 hb3 rfl)
        (try have h6 := SetsRow.step h6 hb3 rfl)
        clear hb3
        try dsimp only
        have h4 := h4n
        clear h4n
        refine hK.out _ _ ?_ (fun hHeld => ?_)
        · exact hS
        clear hK K
        try simp only [Act.put, List.setIfInBounds_toArray, List.set_cons_zero, List.set_cons_succ]
        refine wpAnyH_ready (rs := [3]) (by kernel_rfl) (by simp) ?_
        refine AllReadyH.cons (o := ⟨some 46, _, _, _, _, _⟩) rfl (fun K hK => ?_) AllReadyH.nil
        go_simp
        ((with_reducible refine (clRefineV (Cl.make l) (make_ok l) s hs ((Cl.make l).part s) (refine_yes (make_right l)) _).mono ?_))
        rintro e w3 ⟨rfl, hb3⟩
        have hS := hS.step hb3 rfl
        have hB := below_step hB hb3 rfl rfl rfl rfl
        (try have hI := IsSets.step hI hb3 rfl)
        have hz := Nat.le_trans hz hb3.size
        (try have h4 := At.step h4 hb3 rfl)
        (try have h8 := At.step h8 hb3 rfl)
        (try have h6 := SetsRow.step h6 hb3 rfl)
        clear hb3
        try dsimp only
        refine hK.out _ _ ?_ (fun hHeld => ?_)
        · exact hS
        clear hK K
        try simp only [Act.put, List.setIfInBounds_toArray, List.set_cons_zero, List.set_cons_succ]
        refine wpAnyH_ready (rs := [6]) (by kernel_rfl) (by simp) ?_
        refine AllReadyH.cons (o := ⟨some 49, _, _, _, _, _⟩) rfl (fun K hK => ?_) AllReadyH.nil
        refine step_append_any rfl _ _ 22 rfl _ _ rfl rfl (append_sets _ B0 g4 A n c l _ h4 hg4b hz hI hn) ?_
        rintro v6 w3 ⟨h6, hgr⟩
        have hS : SetAt w3 w.heap.size 33 s := At.grown hS hgr (by intro e; injection e with e; omega)
        have hB := below_grown hB (Nat.le_trans hWB hz) hgr (fun k hk => by injection hk with hk; omega)
        (try have h8 := At.grown h8 hgr (by intro e; injection e with e; exact hne e.symm))
        have hz := Nat.le_trans hz hgr.size
        clear hI h4 hgr
        refine hK.out _ _ ?_ (fun hHeld => ?_)
        · exact hS
        clear hK K
        try simp only [Act.put, List.setIfInBounds_toArray, List.set_cons_zero, List.set_cons_succ]
        refine wpAnyH_ready (rs := [9]) (by kernel_rfl) (by simp) ?_
        refine AllReadyH.cons (o := ⟨some 52, _, _, _, _, _⟩) rfl (fun K hK => ?_) AllReadyH.nil
        refine step_append_any rfl _ _ 22 rfl _ _ rfl rfl (append_set _ B0 g8 v6 l s _ h6 h8 hz hl30 hok hs) ?_
        rintro v9 w3 ⟨⟨g9, cap9, rfl, hI9⟩, hgr⟩
        have hrow : ∀ k, v6.ownBlock = some k → B0 ≤ k := fun k hk => (World.ownsRow.lt h6 k hk).1
        have hS : SetAt w3 w.heap.size 33 s := At.grown hS hgr (fun e => by have := hrow _ e.symm; omega)
        have hB := below_grown hB (Nat.le_trans hWB hz) hgr (fun k hk => Nat.le_trans hWB (hrow k hk))
        have hz := Nat.le_trans hz hgr.size
        clear h6 h8 hgr hrow
        refine hK.out _ _ ?_ (fun hHeld => ?_)
        · exact hS
        clear hK K
        try simp only [Act.put, List.setIfInBounds_toArray, List.set_cons_zero, List.set_cons_succ]
        refine wpAnyH_ready (rs := [10]) (by kernel_rfl) (by simp) ?_
        refine AllReadyH.cons (o := ⟨some 53, _, _, _, _, _⟩) rfl (fun K hK => ?_) AllReadyH.nil
        go_simp
        ((with_reducible refine (clMakeV (some ⟨g9, 0, none⟩) (l.length + 1) cap9 (l ++ [s]) ((Cl.make l).part s) (make_snoc l s) _ hI9).mono ?_))
        rintro e w3 ⟨rfl, hb3⟩
        have hS := hS.step hb3 rfl
        have hB := below_step hB hb3 rfl rfl rfl rfl
        (try have hI := IsSets.step hI hb3 rfl)
        have hz := Nat.le_trans hz hb3.size
        (try have h4 := At.step h4 hb3 rfl)
        (try have h8 := At.step h8 hb3 rfl)
        (try have h6 := SetsRow.step h6 hb3 rfl)
        clear hb3
        try dsimp only
        refine hK.out _ _ ?_ (fun hHeld => ?_)
        · exact hS
        clear hK K
        try simp only [Act.put, List.setIfInBounds_toArray, List.set_cons_zero, List.set_cons_succ]
        refine wpAnyH_take (i := 11) (oi := ⟨some 54, _, _, _, _, _⟩) (v := ?_) rfl (by kernel_rfl) (by kernel_rfl) (by kernel_rfl) (fun _ _ _ h => h) (Or.inl ⟨by rfl, ?_⟩) (by exact hHeld) ?_
        rotate_left
        · (intro w hSw; (try dsimp only at hSw); go_simp; try (with_reducible rfl))
        simp only [Act.put, List.setIfInBounds_toArray, List.set_cons_zero, List.set_cons_succ]
        refine wpAnyH_take (i := 12) (oi := ⟨some 6, _, _, _, _, _⟩) (v := ?_) rfl (by kernel_rfl) (by kernel_rfl) (by kernel_rfl) (fun _ _ _ h => h) (Or.inl ⟨by rfl, ?_⟩) (by exact hHeld) ?_
        rotate_left
        · (intro w hSw; (try dsimp only at hSw); go_simp; try (with_reducible rfl))
        simp only [Act.put, List.setIfInBounds_toArray, List.set_cons_zero, List.set_cons_succ]
        refine wpAnyH_done (by kernel_rfl) ?_ _
        refine NoPanic.normal ?_
        go_wp2_with fail
        go_ret
        exact ⟨rfl, hB⟩
    refine AllReadyH.cons (o := ⟨some 47, _, _, _, _, _⟩) rfl (fun K hK => ?_) AllReadyH.nil
    · refine step_slice0 rfl rfl (fun g4 w3 h4n hb3 hg4 => ?_)
      have hg4b : B0 ≤ g4 := Nat.le_trans hz hg4
      (try have hne : g4 ≠ g8 := Nat.ne_of_gt (Nat.lt_of_lt_of_le (At.lt h8) hg4))
      clear hg4
      have hS := hS.step hb3 rfl
      have hB := below_step hB hb3 rfl rfl rfl rfl
      (try have hI := IsSets.step hI hb3 rfl)
      have hz := Nat.le_trans hz hb3.size
      (try have h4 := At.step h4 hb3 rfl)
      (try have h8 := At.step h8 hb3 rfl)
      (try have h6 := SetsRow.step h6 hb3 rfl)
      clear hb3
      try dsimp only
      have h4 := h4n
      clear h4n
      refine hK.out _ _ ?_ (fun hHeld => ?_)
      · exact hS
      clear hK K
      try simp only [Act.put, List.setIfInBounds_toArray, List.set_cons_zero, List.set_cons_succ]
      refine wpAnyH_ready (rs := [1]) (by kernel_rfl) (by simp) ?_
      refine AllReadyH.cons (o := ⟨some 44, _, _, _, _, _⟩) rfl (fun K hK => ?_) AllReadyH.nil
      go_simp
      ((with_reducible refine (clMake A n c l _ hI).mono ?_))
      rintro e w3 ⟨rfl, hb3⟩
      have hS := hS.step hb3 rfl
      have hB := below_step hB hb3 rfl rfl rfl rfl
      (try have hI := IsSets.step hI hb3 rfl)
      have hz := Nat.le_trans hz hb3.size
      (try have h4 := At.step h4 hb3 rfl)
      (try have h8 := At.step h8 hb3 rfl)
      (try have h6 := SetsRow.step h6 hb3 rfl)
      clear hb3
      try dsimp only
      refine hK.out _ _ ?_ (fun hHeld => ?_)
      · exact hS
      clear hK K
      try simp only [Act.put, List.setIfInBounds_toArray, List.set_cons_zero, List.set_cons_succ]
      refine wpAnyH_ready (rs := [3]) (by kernel_rfl) (by simp) ?_
      refine AllReadyH.cons (o := ⟨some 46, _, _, _, _, _⟩) rfl (fun K hK => ?_) AllReadyH.nil
      go_simp
      ((with_reducible refine (clRefineV (Cl.make l) (make_ok l) s hs ((Cl.make l).part s) (refine_yes (make_right l)) _).mono ?_))
      rintro e w3 ⟨rfl, hb3⟩
      have hS := hS.step hb3 rfl
      have hB := below_step hB hb3 rfl rfl rfl rfl
      (try have hI := IsSets.step hI hb3 rfl)
      have hz := Nat.le_trans hz hb3.size
      (try have h4 := At.step h4 hb3 rfl)
      (try have h8 := At.step h8 hb3 rfl)
      (try have h6 := SetsRow.step h6 hb3 rfl)
      clear hb3
      try dsimp only
      refine hK.out _ _ ?_ (fun hHeld => ?_)
      · exact hS
      clear hK K
      try simp only [Act.put, List.setIfInBounds_toArray, List.set_cons_zero, List.set_cons_succ]
      refine wpAnyH_ready (rs := [6]) (by kernel_rfl) (by simp) ?_
      refine AllReadyH.cons (o := ⟨some 49, _, _, _, _, _⟩) rfl (fun K hK => ?_) AllReadyH.nil
      refine step_append_any rfl _ _ 22 rfl _ _ rfl rfl (append_sets _ B0 g4 A n c l _ h4 hg4b hz hI hn) ?_
      rintro v6 w3 ⟨h6, hgr⟩
      have hS : SetAt w3 w.heap.size 33 s := At.grown hS hgr (by intro e; injection e with e; omega)
      have hB := below_grown hB (Nat.le_trans hWB hz) hgr (fun k hk => by injection hk with hk; omega)
      (try have h8 := At.grown h8 hgr (by intro e; injection e with e; exact hne e.symm))
      have hz := Nat.le_trans hz hgr.size
      clear hI h4 hgr
      refine hK.out _ _ ?_ (fun hHeld => ?_)
      · exact hS
      clear hK K
      try simp only [Act.put, List.setIfInBounds_toArray, List.set_cons_zero, List.set_cons_succ]
      refine wpAnyH_ready (rs := [9]) (by kernel_rfl) (by simp) ?_
      refine AllReadyH.cons (o := ⟨some 52, _, _, _, _, _⟩) rfl (fun K hK => ?_) AllReadyH.nil
      refine step_append_any rfl _ _ 22 rfl _ _ rfl rfl (append_set _ B0 g8 v6 l s _ h6 h8 hz hl30 hok hs) ?_
      rintro v9 w3 ⟨⟨g9, cap9, rfl, hI9⟩, hgr⟩
      have hrow : ∀ k, v6.ownBlock = some k → B0 ≤ k := fun k hk => (World.ownsRow.lt h6 k hk).1
      have hS : SetAt w3 w.heap.size 33 s := At.grown hS hgr (fun e => by have := hrow _ e.symm; omega)
      have hB := below_grown hB (Nat.le_trans hWB hz) hgr (fun k hk => Nat.le_trans hWB (hrow k hk))
      have hz := Nat.le_trans hz hgr.size
      clear h6 h8 hgr hrow
      refine hK.out _ _ ?_ (fun hHeld => ?_)
      · exact hS
      clear hK K
      try simp only [Act.put, List.setIfInBounds_toArray, List.set_cons_zero, List.set_cons_succ]
      refine wpAnyH_ready (rs := [10]) (by kernel_rfl) (by simp) ?_
      refine AllReadyH.cons (o := ⟨some 53, _, _, _, _, _⟩) rfl (fun K hK => ?_) AllReadyH.nil
      go_simp
      ((with_reducible refine (clMakeV (some ⟨g9, 0, none⟩) (l.length + 1) cap9 (l ++ [s]) ((Cl.make l).part s) (make_snoc l s) _ hI9).mono ?_))
      rintro e w3 ⟨rfl, hb3⟩
      have hS := hS.step hb3 rfl
      have hB := below_step hB hb3 rfl rfl rfl rfl
      (try have hI := IsSets.step hI hb3 rfl)
      have hz := Nat.le_trans hz hb3.size
      (try have h4 := At.step h4 hb3 rfl)
      (try have h8 := At.step h8 hb3 rfl)
      (try have h6 := SetsRow.step h6 hb3 rfl)
      clear hb3
      try dsimp only
      refine hK.out _ _ ?_ (fun hHeld => ?_)
      · exact hS
      clear hK K
      try simp only [Act.put, List.setIfInBounds_toArray, List.set_cons_zero, List.set_cons_succ]
      refine wpAnyH_take (i := 11) (oi := ⟨some 54, _, _, _, _, _⟩) (v := ?_) rfl (by kernel_rfl) (by kernel_rfl) (by kernel_rfl) (fun _ _ _ h => h) (Or.inl ⟨by rfl, ?_⟩) (by exact hHeld) ?_
      rotate_left
      · (intro w hSw; (try dsimp only at hSw); go_simp; try (with_reducible rfl))
      simp only [Act.put, List.setIfInBounds_toArray, List.set_cons_zero, List.set_cons_succ]
      refine wpAnyH_take (i := 12) (oi := ⟨some 6, _, _, _, _, _⟩) (v := ?_) rfl (by kernel_rfl) (by kernel_rfl) (by kernel_rfl) (fun _ _ _ h => h) (Or.inl ⟨by rfl, ?_⟩) (by exact hHeld) ?_
      rotate_left
      · (intro w hSw; (try dsimp only at hSw); go_simp; try (with_reducible rfl))
      simp only [Act.put, List.setIfInBounds_toArray, List.set_cons_zero, List.set_cons_succ]
      refine wpAnyH_done (by kernel_rfl) ?_ _
      refine NoPanic.normal ?_
      go_wp2_with fail
      go_ret
      exact ⟨rfl, hB⟩

theorem lawRefine (A : Option Addr) (n c : Nat) (l : List St) (s : St) (hs : s.Ok) (raw : Cl) (hraw : raw.Ok) (w : World) (h : IsSets w A n l) :
    Calls Try.prog 4 #[.slice A n c, .agg #[.int .u64 s.w0, .int .u64 s.w1, .int .u64 s.w2, .int .u64 s.w3], .agg raw.cells] w fun e w' => e = .returned (.bool true) ∧ Below w.heap.size w w' := by
  by_cases hn : n ≤ 30
  · cases hr : raw.right
    · exact lawRefineNo A n c l s hs raw hraw hr w h hn
    · exact lawRefineYes A n c l s hs raw hraw hr w h hn
  · exact lawRefineLong A n c s raw h.2.1 (by omega) w

end Go.Proofs.Ythmppooefajpgaa
