/- ClassesMake answers true, whatever sets there are. -/
import Derived.Test.YthmppooefajpgaaProg
import Derived.Test.YthmppooefajpgaaWords
import Derived.Test.YthmppooefajpgaaCl
import Derived.Test.YthmppooefajpgaaRight
import Derived.Test.YthmppooefajpgaaMake
import Derived.Test.YthmppooefajpgaaAlike
import Derived.Test.YthmppooefajpgaaMore
import Derived.Deep.RegionHeld3
namespace Go.Proofs.Ythmppooefajpgaa
open Go.RowKit
set_option linter.unusedSimpArgs false

set_option maxRecDepth 100000 in
set_option maxHeartbeats 4000000 in
theorem lawMakeLong (A : Option Addr) (n c : Nat) (hm : n ≤ 9223372036854775807) (hn : 30 < n) (w : World) :
    Calls Try.prog 3 #[.slice A n c] w fun e w' => e = .returned (.bool true) ∧ Below w.heap.size w w' := by
  go_enter Try.func3, Try.ntmps3
  go_wp2_with fail
  refine (awakeYes _).mono ?_
  rintro e w1 ⟨rfl, hb1⟩
  go_wp2_with fail
  refine (awakeYes _).mono ?_
  rintro e w2 ⟨rfl, hb2⟩
  go_wp2_with fail
  go_ret
  exact ⟨rfl, hb1.trans (hb2.mono hb1.size)⟩

set_option maxRecDepth 100000 in
set_option maxHeartbeats 4000000 in
theorem lawMakeShort (A : Option Addr) (n c : Nat) (l : List St) (w : World) (h : IsSets w A n l) (hn : n ≤ 30) :
    Calls Try.prog 3 #[.slice A n c] w fun e w' => e = .returned (.bool true) ∧ Below w.heap.size w w' := by
  have HI := Lib.hid h
  clear h
  have z1 := zero_cl
  go_enter Try.func3, Try.ntmps3
  go_wp2_with fail
  refine (awakeYes _).mono ?_
  rintro e w1 ⟨rfl, hb1⟩
  go_wp2_with fail
  refine (clMake A n c l _ (HI.out.next hb1)).mono ?_
  rintro e w2 ⟨rfl, hb2⟩
  obtain ⟨g, hg⟩ : ∃ g, g = w2.heap.size := ⟨_, rfl⟩
  have HG := Lib.hid hg
  go_wp2_with (first | (refine wpList_store_row rfl 26 _ _ rfl w2.heap.size (Cl.make l).cells rfl rfl 26 Cl.zero.cells (at_new' _ _ _ rfl) (by rw [Cl.size]; kernel_rfl) (by rw [Cl.size, Cl.size]) (Cl.one' _) ?_) | fail)
  clear z1
  have hB0 : Below w.heap.size w w2 := hb1.trans (hb2.mono hb1.size)
  have hBs := hB0.size
  rw [← hg]
  have hwg : w.heap.size ≤ g := by omega
  clear hg
  go_loopw [16] (fun i wr => ∃ a : Nat, a ≤ 256 ∧ i = .int .i64 a ∧ Hid (At wr g 26 (Cl.make l).cells) ∧ Hid (Below w.heap.size w wr)) (fun i _ => 256 - (intOf i).toNat)
  case atStart =>
    refine ⟨0, Nat.zero_le _, rfl, ?_, ?_⟩
    · rw [HG.out]; exact Lib.hid ((At.new w2 26 _).row _)
    · exact Lib.hid (below_row (hB0.alloc hBs _) hwg _)
  case round =>
    obtain ⟨a, hak, rfl, hCh, hBh⟩ := hrel
    by_cases hlt : a < 256
    · have hd1 : decide ((a : Int) < 256) = true := by rw [decide_eq_true_iff]; omega
      have hd2 : (a : Int) < 256 := by omega
      go_wp2_with fail
      go_loopw [20] (fun i wr => ∃ b : Nat, b ≤ a ∧ i = .int .i64 b ∧ Hid (At wr g 26 (Cl.make l).cells) ∧ Hid (Below w.heap.size w wr)) (fun i _ => 256 - (intOf i).toNat)
      case atStart => exact ⟨0, Nat.zero_le _, rfl, hCh, hBh⟩
      case round =>
        clear hCh hBh
        obtain ⟨b, hbk, rfl, hCh, hBh⟩ := hrel
        have hC := hCh.out
        have hB := hBh.out
        by_cases hltb : b < a
        · obtain ⟨x, hx⟩ : ∃ x : Nat, (Cl.make l).cl a = x := ⟨_, rfl⟩
          obtain ⟨y, hy⟩ : ∃ y : Nat, (Cl.make l).cl b = y := ⟨_, rfl⟩
          have hS := make_same l a b (by omega) (by omega)
          rw [hx, hy] at hS
          have HX := Lib.hid hx
          have HY := Lib.hid hy
          clear hx hy
          obtain ⟨v, hv⟩ : ∃ v : Bool, alike l a b = v := ⟨_, rfl⟩
          have HV := Lib.hid hv
          rw [hv] at hS
          clear hv
          have hi : ((x : Int) == (y : Int)) = v := by rw [← hS, beq_cast]
          clear hS
          have hb256 : (b : Int) < 256 := by omega
          have hvv : (v != v) = false := by cases v <;> rfl
          have hvv' : (v == v) = true := by cases v <;> rfl
          go_wp2_with fail
          refine wp_region_noPanic ?_
          refine wp_region_held_drew (S := (fun w' => w'.cell? ⟨g, a, none⟩ = some (.int .u8 (x : Nat)) ∧ w'.cell? ⟨g, b, none⟩ = some (.int .u8 (y : Nat)))) (by kernel_rfl) (by exact cells2 hC (by omega) (by omega) HX.out HY.out) (fun hHeld => ?_)
          refine wpAnyH_take (i := 0) (oi := ⟨some 23, _, _, _, _, _⟩) (v := ?_) rfl (by kernel_rfl) (by kernel_rfl) (by kernel_rfl) (fun _ _ _ h => h) (Or.inl ⟨by rfl, ?_⟩) (by exact hHeld) ?_
          rotate_left
          · (intro w hSw; (try dsimp only at hSw); go_simp; try (with_reducible rfl))
          simp only [Act.put, List.setIfInBounds_toArray, List.set_cons_zero, List.set_cons_succ]
          refine wpAnyH_take (i := 1) (oi := ⟨some 24, _, _, _, _, _⟩) (v := ?_) rfl (by kernel_rfl) (by kernel_rfl) (by kernel_rfl) (fun _ _ _ h => h) (Or.inl ⟨by rfl, ?_⟩) (by exact hHeld) ?_
          rotate_left
          · (intro w hSw; (try dsimp only at hSw); go_simp; try (with_reducible rfl))
          simp only [Act.put, List.setIfInBounds_toArray, List.set_cons_zero, List.set_cons_succ]
          refine wpAnyH_take (i := 2) (oi := ⟨some 25, _, _, _, _, _⟩) (v := ?_) rfl (by kernel_rfl) (by kernel_rfl) (by kernel_rfl) (fun _ _ _ h => h) (Or.inl ⟨by rfl, ?_⟩) (by exact hHeld) ?_
          rotate_left
          · (intro w hSw; (try dsimp only at hSw); go_simp; try (with_reducible rfl))
          simp only [Act.put, List.setIfInBounds_toArray, List.set_cons_zero, List.set_cons_succ]
          refine wpAnyH_take (i := 3) (oi := ⟨some 26, _, _, _, _, _⟩) (v := ?_) rfl (by kernel_rfl) (by kernel_rfl) (by kernel_rfl) (fun _ _ _ h => h) (Or.inl ⟨by rfl, ?_⟩) (by exact hHeld) ?_
          rotate_left
          · (intro w hSw; (try dsimp only at hSw); go_simp; try (with_reducible rfl))
          simp only [Act.put, List.setIfInBounds_toArray, List.set_cons_zero, List.set_cons_succ]
          refine wpAnyH_take (i := 4) (oi := ⟨some 27, _, _, _, _, _⟩) (v := ?_) rfl (by kernel_rfl) (by kernel_rfl) (by kernel_rfl) (fun _ _ _ h => h) (Or.inl ⟨by rfl, ?_⟩) (by exact hHeld) ?_
          rotate_left
          · (intro w hSw; (try dsimp only at hSw); go_simp; try (with_reducible rfl))
          simp only [Act.put, List.setIfInBounds_toArray, List.set_cons_zero, List.set_cons_succ]
          refine wpAnyH_take (i := 5) (oi := ⟨some 28, _, _, _, _, _⟩) (v := ?_) rfl (by kernel_rfl) (by kernel_rfl) (by kernel_rfl) (fun _ _ _ h => h) (Or.inl ⟨by rfl, ?_⟩) (by exact hHeld) ?_
          rotate_left
          · (intro w hSw; (try dsimp only at hSw); go_simp; try (with_reducible rfl))
          simp only [Act.put, List.setIfInBounds_toArray, List.set_cons_zero, List.set_cons_succ]
          refine wpAnyH_take (i := 6) (oi := ⟨some 29, _, _, _, _, _⟩) (v := ?_) rfl (by kernel_rfl) (by kernel_rfl) (by kernel_rfl) (fun _ _ _ h => h) (Or.inl ⟨by rfl, ?_⟩) (by exact hHeld) ?_
          rotate_left
          · (intro w hSw; (try dsimp only at hSw); go_simp; try (with_reducible rfl))
          simp only [Act.put, List.setIfInBounds_toArray, List.set_cons_zero, List.set_cons_succ]
          refine wpAnyH_take (i := 7) (oi := ⟨some 30, _, _, _, _, _⟩) (v := ?_) rfl (by kernel_rfl) (by kernel_rfl) (by kernel_rfl) (fun _ _ _ h => h) (Or.inl ⟨by rfl, ?_⟩) (by exact hHeld) ?_
          rotate_left
          · (intro w hSw; (try dsimp only at hSw); go_simp; try (with_reducible rfl))
          simp only [Act.put, List.setIfInBounds_toArray, List.set_cons_zero, List.set_cons_succ]
          refine wpAnyH_take (i := 8) (oi := ⟨some 31, _, _, _, _, _⟩) (v := ?_) rfl (by kernel_rfl) (by kernel_rfl) (by kernel_rfl) (fun _ _ _ h => h) (Or.inl ⟨by rfl, ?_⟩) (by exact hHeld) ?_
          rotate_left
          · (intro w hSw; (try dsimp only at hSw); go_simp; try (with_reducible rfl))
          simp only [Act.put, List.setIfInBounds_toArray, List.set_cons_zero, List.set_cons_succ]
          refine wpAnyH_take (i := 9) (oi := ⟨some 32, _, _, _, _, _⟩) (v := ?_) rfl (by kernel_rfl) (by kernel_rfl) (by kernel_rfl) (fun _ _ _ h => h) (Or.inl ⟨by rfl, ?_⟩) (by exact hHeld) ?_
          rotate_left
          · (intro w hSw; (try dsimp only at hSw); go_simp; try (with_reducible rfl))
          simp only [Act.put, List.setIfInBounds_toArray, List.set_cons_zero, List.set_cons_succ]
          refine wpAnyH_take (i := 10) (oi := ⟨some 33, _, _, _, _, _⟩) (v := ?_) rfl (by kernel_rfl) (by kernel_rfl) (by kernel_rfl) (fun _ _ _ h => h) (Or.inl ⟨by rfl, ?_⟩) (by exact hHeld) ?_
          rotate_left
          · (intro w hSw; (try dsimp only at hSw); go_simp; try (with_reducible rfl))
          simp only [Act.put, List.setIfInBounds_toArray, List.set_cons_zero, List.set_cons_succ]
          refine wpAnyH_take (i := 11) (oi := ⟨some 34, _, _, _, _, _⟩) (v := ?_) rfl (by kernel_rfl) (by kernel_rfl) (by kernel_rfl) (fun _ _ _ h => h) (Or.inl ⟨by rfl, ?_⟩) (by exact hHeld) ?_
          rotate_left
          · (intro w hSw; (try dsimp only at hSw); go_simp; try (with_reducible rfl))
          simp only [Act.put, List.setIfInBounds_toArray, List.set_cons_zero, List.set_cons_succ]
          refine wpAnyH_ready (rs := [12]) (by kernel_rfl) (by simp) ?_
          refine AllReadyH.cons (o := ⟨some 35, _, _, _, _, _⟩) rfl (fun K hK => ?_) AllReadyH.nil
          go_simp
          ((with_reducible refine (refAlikeV A n c l a b (by omega) (by omega) _ HV.out _ (HI.out.below (Nat.le_refl _) hB).drew).mono ?_))
          rintro e w3 ⟨rfl, hb3⟩
          have hC := hC.step hb3 rfl
          have hB := below_step hB hb3 rfl rfl rfl rfl
          clear hb3
          dsimp only
          refine hK.out _ _ ?_ (fun hHeld => ?_)
          · exact cells2 hC (by omega) (by omega) HX.out HY.out
          clear hK K
          try simp only [Act.put, List.setIfInBounds_toArray, List.set_cons_zero, List.set_cons_succ]
          refine wpAnyH_take (i := 13) (oi := ⟨some 36, _, _, _, _, _⟩) (v := ?_) rfl (by kernel_rfl) (by kernel_rfl) (by kernel_rfl) (fun _ _ _ h => h) (Or.inl ⟨by rfl, ?_⟩) (by exact hHeld) ?_
          rotate_left
          · (intro w hSw; (try dsimp only at hSw); go_simp; try (with_reducible rfl))
          simp only [Act.put, List.setIfInBounds_toArray, List.set_cons_zero, List.set_cons_succ]
          refine wpAnyH_done (by kernel_rfl) ?_ _
          refine NoPanic.normal ?_
          go_wp2
          go_roundw
          case rel =>
            exact ⟨b + 1, by omega, by go_num, Lib.hid hC, Lib.hid hB⟩
          case measure => simp [intOf]; omega
        · go_wp2_with fail
          go_roundw
          case rel => exact ⟨a + 1, by omega, by go_num, Lib.hid hC, Lib.hid hB⟩
          case measure => simp [intOf]; omega
    · obtain rfl : a = 256 := by omega
      have hC := hCh.out
      have hB := hBh.out
      go_wp2_with (first | (refine wpList_load_row rfl 26 _ rfl g rfl 26 (Cl.make l).cells (0, 0) _ hC Try.underlying26 rfl (by rw [Cl.size]; kernel_rfl) ?_) | fail)
      refine (lawRightV _ (make_ok l) true (make_right l) _).mono ?_
      rintro e w3 ⟨rfl, hb3⟩
      have hC := hC.step hb3 rfl
      have hB := below_step hB hb3 rfl rfl rfl rfl
      clear hb3
      go_wp2_with (first | (refine wpList_load_row_want (by rfl) 26 _ rfl g rfl 26 (Cl.make l).cells (0, 0) _ hC Try.underlying26 rfl (by rw [Cl.size]; kernel_rfl) ?_) | fail)
      refine (clRightV _ (make_ok l) true (make_right l) _).mono ?_
      rintro e w3 ⟨rfl, hb3⟩
      have hB := below_step hB hb3 rfl rfl rfl rfl
      go_wp2_with fail
      go_ret
      exact ⟨rfl, hB⟩

theorem lawMake (A : Option Addr) (n c : Nat) (l : List St) (w : World) (h : IsSets w A n l) :
    Calls Try.prog 3 #[.slice A n c] w fun e w' => e = .returned (.bool true) ∧ Below w.heap.size w w' := by
  by_cases hn : n ≤ 30
  · exact lawMakeShort A n c l w h hn
  · exact lawMakeLong A n c h.2.1 (by omega) w

end Go.Proofs.Ythmppooefajpgaa
