/- SetLists answers true, of any set, where the library's table lies in its variable. -/
import Derived.Test.YtdcmalfjciekoaaDoorProg
import Derived.Test.YtdcmalfjciekoaaDoorOf
import Derived.Test.YtdcmalfjciekoaaDoorBytes
import Derived.Test.YtdcmalfjciekoaaDoorRanges
import Derived.Deep.RegionHeld3
namespace Go.Proofs.YtdcmalfjciekoaaDoor
open Go.RowKit
set_option linter.unusedSimpArgs false

set_option maxRecDepth 100000 in
set_option maxHeartbeats 8000000 in
theorem lawListsSome (s : St) (hs : s.Ok) (w : World) (hT : Tab w) (hL : 0 < s.list.length) :
    Calls Tryd.prog 3 #[.agg #[.int .u64 s.w0, .int .u64 s.w1, .int .u64 s.w2, .int .u64 s.w3]] w fun e w' => e = .returned (.bool true) ∧ Below w.heap.size w w' := by
  have hll := s.list_len
  have HAll := Lib.hid (fun W hW => setAll s hs W hW)
  have HBytes := Lib.hid (fun W => refBytes s hs W)
  have HCount := Lib.hid (fun W => setCount s hs W)
  have HLeast := Lib.hid (fun W hW => setLeast s hs W hW)
  have HRanges := Lib.hid (fun W hW => setRanges s hs W hW)
  have H256 := Lib.hid s.list_256
  obtain ⟨l, hl⟩ : ∃ l : List Nat, l = s.list := ⟨_, rfl⟩
  rw [← hl] at hll HAll HBytes HCount HLeast HRanges H256 hL
  clear hl
  have HT := Lib.hid hT
  clear hT
  obtain ⟨b0, hb0⟩ : ∃ b0 : Nat, b0 = l[0] := ⟨_, rfl⟩
  have hlo : leastOf l = (b0, true) := by
    cases l with
    | nil => simp at hL
    | cons x r => rw [hb0]; rfl
  have hb0256 : b0 < 256 := by rw [hb0]; exact H256.out 0 hL
  have HB0 := Lib.hid hb0
  rw [hlo] at HLeast
  clear hlo hb0
  have hpos : decide ((0 : Int) < (l.length : Int)) = true := by simp; omega
  have hb8 : IntKind.i64.wrap (b0 : Int) = (b0 : Int) := by rw [IntKind.wrap_i64]; omega
  have hnn : ((l.length : Int) != (l.length : Int)) = false := by simp
  have hne : ((l.length : Int) == (l.length : Int)) = true := by simp
  go_enter Tryd.func3, Tryd.ntmps3
  go_wp2_with fail
  refine (awakeYes _).mono ?_
  rintro e w1 ⟨rfl, hb1⟩
  have hA := (SetAt.new w 24 s).next hb1
  have hB : Below w.heap.size w w1 := ((Below.refl _ _).alloc (Nat.le_refl _) _).trans (hb1.mono (by simp))
  clear hb1
  obtain ⟨c0, c1, c2, c3⟩ := hA.cells
  go_wp2_with fail
  refine (HAll.out _ (HT.out.below hB)).mono ?_
  rintro e w2 ⟨v1, rfl, hV1, hb2⟩
  obtain ⟨A1, k1, rfl⟩ := hV1.len
  have hA := hA.step hb2 rfl
  have hB := below_step hB hb2 rfl rfl rfl rfl
  have hV1 := hV1.mono (Nat.zero_le _)
  clear hb2 c0 c1 c2 c3
  obtain ⟨c0, c1, c2, c3⟩ := hA.cells
  go_wp2_with fail
  refine (HBytes.out _).mono ?_
  rintro e w3 ⟨v2, rfl, hV2, hb3⟩
  obtain ⟨A2, k2, rfl⟩ := hV2.len
  have hA := hA.step hb3 rfl
  have hB := below_step hB hb3 rfl rfl rfl rfl
  have hV1 := hV1.step hb3 rfl
  have hV2 := hV2.mono (Nat.zero_le _)
  clear hb3 c0 c1 c2 c3
  obtain ⟨c0, c1, c2, c3⟩ := hA.cells
  go_wp2_with fail
  refine (HCount.out _).mono ?_
  rintro e w4 ⟨rfl, hb4⟩
  have hA := hA.step hb4 rfl
  have hB := below_step hB hb4 rfl rfl rfl rfl
  have hV1 := hV1.step hb4 rfl
  have hV2 := hV2.step hb4 rfl
  clear hb4 c0 c1 c2 c3
  go_wp2_with fail
  go_loopw [32] (fun i wr => ∃ k : Nat, k ≤ l.length ∧ i = .int .i64 k ∧ SetAt wr w.heap.size 24 s ∧ IntRow wr 0 5 .u8 (.slice A1 l.length k1) l ∧ IntRow wr 0 3 .i64 (.slice A2 l.length k2) l ∧ Below w.heap.size w wr) (fun i _ => l.length - (intOf i).toNat)
  case atStart => exact ⟨0, Nat.zero_le _, rfl, hA, hV1, hV2, hB⟩
  case round =>
    clear hA hV1 hV2 hB
    obtain ⟨k, hk, rfl, hA, hV1, hV2, hB⟩ := hrel
    by_cases hlt : k < l.length
    · obtain ⟨g1, k1', e1, _, _, _, _⟩ := hV1.form (by omega)
      injection e1 with e1 _ e1'
      subst e1 e1'
      obtain ⟨g2, k2', e2, _, _, _, _⟩ := hV2.form (by omega)
      injection e2 with e2 _ e2'
      subst e2 e2'
      have q1 := hV1.at k hlt
      have q2 := hV2.at k hlt
      have hb := H256.out k hlt
      obtain ⟨b, hbb⟩ : ∃ b : Nat, b = l[k] := ⟨_, rfl⟩
      rw [← hbb] at q1 q2 hb
      clear hbb
      have hw8 : IntKind.i64.wrap (b : Int) = (b : Int) := by rw [IntKind.wrap_i64]; omega
      have hbn : ((b : Int) != (b : Int)) = false := by simp
      have hk0 : (0 : Int) ≤ (k : Int) := by omega
      have hkn : (k : Int) < (l.length : Int) := by omega
      go_wp2_with fail
      refine wp_region_noPanic ?_
      refine wp_region_held_drew (S := (fun w' => w'.cell? ⟨g1, k, none⟩ = some (.int .u8 (b : Nat)) ∧ w'.cell? ⟨g2, k, none⟩ = some (.int .i64 (b : Nat)))) (by kernel_rfl) (by exact ⟨q1, q2⟩) (fun hHeld => ?_)
      refine wpAnyH_take (i := 0) (oi := ⟨some 35, _, _, _, _, _⟩) (v := ?_) rfl (by kernel_rfl) (by kernel_rfl) (by kernel_rfl) (fun _ _ _ h => h) (Or.inl ⟨by rfl, ?_⟩) (by exact hHeld) ?_
      rotate_left
      · (intro w hSw; (try dsimp only at hSw); go_simp; try (with_reducible rfl))
      simp only [Act.put, List.setIfInBounds_toArray, List.set_cons_zero, List.set_cons_succ]
      refine wpAnyH_take (i := 1) (oi := ⟨some 36, _, _, _, _, _⟩) (v := ?_) rfl (by kernel_rfl) (by kernel_rfl) (by kernel_rfl) (fun _ _ _ h => h) (Or.inl ⟨by rfl, ?_⟩) (by exact hHeld) ?_
      rotate_left
      · (intro w hSw; (try dsimp only at hSw); go_simp; try (with_reducible rfl))
      simp only [Act.put, List.setIfInBounds_toArray, List.set_cons_zero, List.set_cons_succ]
      refine wpAnyH_take (i := 2) (oi := ⟨some 37, _, _, _, _, _⟩) (v := ?_) rfl (by kernel_rfl) (by kernel_rfl) (by kernel_rfl) (fun _ _ _ h => h) (Or.inl ⟨by rfl, ?_⟩) (by exact hHeld) ?_
      rotate_left
      · (intro w hSw; (try dsimp only at hSw); go_simp; try (with_reducible rfl))
      simp only [Act.put, List.setIfInBounds_toArray, List.set_cons_zero, List.set_cons_succ]
      refine wpAnyH_take (i := 3) (oi := ⟨some 38, _, _, _, _, _⟩) (v := ?_) rfl (by kernel_rfl) (by kernel_rfl) (by kernel_rfl) (fun _ _ _ h => h) (Or.inl ⟨by rfl, ?_⟩) (by exact hHeld) ?_
      rotate_left
      · (intro w hSw; (try dsimp only at hSw); go_simp; try (with_reducible rfl))
      simp only [Act.put, List.setIfInBounds_toArray, List.set_cons_zero, List.set_cons_succ]
      refine wpAnyH_take (i := 4) (oi := ⟨some 39, _, _, _, _, _⟩) (v := ?_) rfl (by kernel_rfl) (by kernel_rfl) (by kernel_rfl) (fun _ _ _ h => h) (Or.inl ⟨by rfl, ?_⟩) (by exact hHeld) ?_
      rotate_left
      · (intro w hSw; (try dsimp only at hSw); go_simp; try (with_reducible rfl))
      simp only [Act.put, List.setIfInBounds_toArray, List.set_cons_zero, List.set_cons_succ]
      refine wpAnyH_take (i := 5) (oi := ⟨some 40, _, _, _, _, _⟩) (v := ?_) rfl (by kernel_rfl) (by kernel_rfl) (by kernel_rfl) (fun _ _ _ h => h) (Or.inl ⟨by rfl, ?_⟩) (by exact hHeld) ?_
      rotate_left
      · (intro w hSw; (try dsimp only at hSw); go_simp; try (with_reducible rfl))
      simp only [Act.put, List.setIfInBounds_toArray, List.set_cons_zero, List.set_cons_succ]
      refine wpAnyH_take (i := 6) (oi := ⟨some 41, _, _, _, _, _⟩) (v := ?_) rfl (by kernel_rfl) (by kernel_rfl) (by kernel_rfl) (fun _ _ _ h => h) (Or.inl ⟨by rfl, ?_⟩) (by exact hHeld) ?_
      rotate_left
      · (intro w hSw; (try dsimp only at hSw); go_simp; try (with_reducible rfl))
      simp only [Act.put, List.setIfInBounds_toArray, List.set_cons_zero, List.set_cons_succ]
      refine wpAnyH_take (i := 7) (oi := ⟨some 42, _, _, _, _, _⟩) (v := ?_) rfl (by kernel_rfl) (by kernel_rfl) (by kernel_rfl) (fun _ _ _ h => h) (Or.inl ⟨by rfl, ?_⟩) (by exact hHeld) ?_
      rotate_left
      · (intro w hSw; (try dsimp only at hSw); go_simp; try (with_reducible rfl))
      simp only [Act.put, List.setIfInBounds_toArray, List.set_cons_zero, List.set_cons_succ]
      refine wpAnyH_take (i := 8) (oi := ⟨some 43, _, _, _, _, _⟩) (v := ?_) rfl (by kernel_rfl) (by kernel_rfl) (by kernel_rfl) (fun _ _ _ h => h) (Or.inl ⟨by rfl, ?_⟩) (by exact hHeld) ?_
      rotate_left
      · (intro w hSw; (try dsimp only at hSw); go_simp; try (with_reducible rfl))
      simp only [Act.put, List.setIfInBounds_toArray, List.set_cons_zero, List.set_cons_succ]
      refine wpAnyH_take (i := 9) (oi := ⟨some 44, _, _, _, _, _⟩) (v := ?_) rfl (by kernel_rfl) (by kernel_rfl) (by kernel_rfl) (fun _ _ _ h => h) (Or.inl ⟨by rfl, ?_⟩) (by exact hHeld) ?_
      rotate_left
      · (intro w hSw; (try dsimp only at hSw); go_simp; try (with_reducible rfl))
      simp only [Act.put, List.setIfInBounds_toArray, List.set_cons_zero, List.set_cons_succ]
      refine wpAnyH_done (by kernel_rfl) ?_ _
      refine NoPanic.normal ?_
      go_wp2_with fail
      exact ⟨⟨k + 1, by omega, by go_num, hA, hV1.drew, hV2.drew, hB.drew⟩, by simp [intOf]; omega⟩
    · have hge : l.length ≤ k := by omega
      clear hlt hk
      obtain ⟨c0, c1, c2, c3⟩ := hA.cells
      go_wp2_with fail
      refine (HLeast.out _ (HT.out.below hB)).mono ?_
      rintro e w5 ⟨rfl, hb5⟩
      have hA := hA.step hb5 rfl
      have hV1 := hV1.step hb5 rfl
      have hV2 := hV2.step hb5 rfl
      have hB := below_step hB hb5 rfl rfl rfl rfl
      clear hb5 c0 c1 c2 c3
      obtain ⟨c0, c1, c2, c3⟩ := hA.cells
      obtain ⟨g2, k2', e2, _, _, _, _⟩ := hV2.form hL
      injection e2 with e2 _ e2'
      subst e2 e2'
      have q2 := hV2.at 0 hL
      rw [← HB0.out] at q2
      have hbn : ((b0 : Int) != (b0 : Int)) = false := by simp
      have hL0 : (0 : Int) < (l.length : Int) := by omega
      go_wp2_with fail
      refine (HRanges.out _ (HT.out.below hB)).mono ?_
      rintro e w6 ⟨v3, R, rfl, hP, hR, hb6⟩
      obtain ⟨A3, k3, rfl⟩ := hP.len
      have hV2 := hV2.step hb6 rfl
      have hB := below_step hB hb6 rfl rfl rfl rfl
      have hP := hP.mono (Nat.zero_le _)
      have hrl := rg_len hR
      clear hb6 c0 c1 c2 c3 hA hV1
      have HR := Lib.hid hR
      have HAll := Lib.hid (stAt_all R l hR)
      clear hR
      go_wp2_with fail
      go_loopw [8, 79] (fun kk ii wr => ∃ i : Nat, i ≤ R.length ∧ ii = .int .i64 i ∧ kk = .int .i64 (stAt R i : Nat) ∧ IntRow wr 0 3 .i64 (.slice (some ⟨g2, 0, none⟩) l.length k2) l ∧ PairRow wr 0 35 (.slice A3 R.length k3) R ∧ Below w.heap.size w wr) (fun _ ii _ => R.length - (intOf ii).toNat)
      case atStart => exact ⟨0, Nat.zero_le _, rfl, by rw [stAt_zero]; rfl, hV2, hP, hB⟩
      case round =>
        clear hV2 hP hB
        obtain ⟨i, hik, rfl, rfl, hV2, hP, hB⟩ := hrel
        by_cases hlt : i < R.length
        · obtain ⟨lo, hi, hp⟩ : ∃ lo hi, R[i]? = some (lo, hi) := ⟨_, _, List.getElem?_eq_getElem hlt⟩
          obtain ⟨g3, k3', e3, _, _, _, _⟩ := hP.form (by omega)
          injection e3 with e3 _ e3'
          subst e3 e3'
          obtain ⟨hle, h256⟩ := HR.out.ok (lo, hi) (List.mem_of_getElem? hp)
          simp only at hle h256
          have hgt : decide ((hi : Int) < (lo : Int)) = false := decide_eq_false (by omega)
          have hgt' : decide (hi < lo) = false := decide_eq_false (by omega)
          have hdl : decide ((i : Int) < (R.length : Int)) = true := decide_eq_true (by omega)
          have hdl' : decide (i < R.length) = true := decide_eq_true (by omega)
          have hl8 : IntKind.i64.wrap (lo : Int) = (lo : Int) := by rw [IntKind.wrap_i64]; omega
          have hh8 : IntKind.i64.wrap (hi : Int) = (hi : Int) := by rw [IntKind.wrap_i64]; omega
          have HS1 := Lib.hid (stAt_succ R i (lo, hi) hp)
          have hiR : (i : Int) < (R.length : Int) := by omega
          rcases i with _ | j
          · obtain ⟨q3, q4⟩ := hP.at 0 (lo, hi) hp
            simp only [Nat.zero_mul, Nat.zero_add] at q3 q4
            go_wp2_with fail
            refine wp_region_noPanic ?_
            refine wp_region_held_drew (S := (fun w' => w'.cell? ⟨g3, 0, none⟩ = some (.int .u8 (lo : Nat)) ∧ w'.cell? ⟨g3, 1, none⟩ = some (.int .u8 (hi : Nat)))) (by kernel_rfl) (by exact ⟨q3, q4⟩) (fun hHeld => ?_)
            refine wpAnyH_take (i := 0) (oi := ⟨some 82, _, _, _, _, _⟩) (v := ?_) rfl (by kernel_rfl) (by kernel_rfl) (by kernel_rfl) (fun _ _ _ h => h) (Or.inl ⟨by rfl, ?_⟩) (by exact hHeld) ?_
            rotate_left
            · (intro w hSw; (try dsimp only at hSw); go_simp; try (with_reducible rfl))
            simp only [Act.put, List.setIfInBounds_toArray, List.set_cons_zero, List.set_cons_succ]
            refine wpAnyH_take (i := 1) (oi := ⟨some 83, _, _, _, _, _⟩) (v := ?_) rfl (by kernel_rfl) (by kernel_rfl) (by kernel_rfl) (fun _ _ _ h => h) (Or.inl ⟨by rfl, ?_⟩) (by exact hHeld) ?_
            rotate_left
            · (intro w hSw; (try dsimp only at hSw); go_simp; try (with_reducible rfl))
            simp only [Act.put, List.setIfInBounds_toArray, List.set_cons_zero, List.set_cons_succ]
            refine wpAnyH_take (i := 2) (oi := ⟨some 84, _, _, _, _, _⟩) (v := ?_) rfl (by kernel_rfl) (by kernel_rfl) (by kernel_rfl) (fun _ _ _ h => h) (Or.inl ⟨by rfl, ?_⟩) (by exact hHeld) ?_
            rotate_left
            · (intro w hSw; (try dsimp only at hSw); go_simp; try (with_reducible rfl))
            simp only [Act.put, List.setIfInBounds_toArray, List.set_cons_zero, List.set_cons_succ]
            refine wpAnyH_take (i := 3) (oi := ⟨some 85, _, _, _, _, _⟩) (v := ?_) rfl (by kernel_rfl) (by kernel_rfl) (by kernel_rfl) (fun _ _ _ h => h) (Or.inl ⟨by rfl, ?_⟩) (by exact hHeld) ?_
            rotate_left
            · (intro w hSw; (try dsimp only at hSw); go_simp; try (with_reducible rfl))
            simp only [Act.put, List.setIfInBounds_toArray, List.set_cons_zero, List.set_cons_succ]
            refine wpAnyH_take (i := 4) (oi := ⟨some 86, _, _, _, _, _⟩) (v := ?_) rfl (by kernel_rfl) (by kernel_rfl) (by kernel_rfl) (fun _ _ _ h => h) (Or.inl ⟨by rfl, ?_⟩) (by exact hHeld) ?_
            rotate_left
            · (intro w hSw; (try dsimp only at hSw); go_simp; try (with_reducible rfl))
            simp only [Act.put, List.setIfInBounds_toArray, List.set_cons_zero, List.set_cons_succ]
            refine wpAnyH_take (i := 5) (oi := ⟨some 87, _, _, _, _, _⟩) (v := ?_) rfl (by kernel_rfl) (by kernel_rfl) (by kernel_rfl) (fun _ _ _ h => h) (Or.inl ⟨by rfl, ?_⟩) (by exact hHeld) ?_
            rotate_left
            · (intro w hSw; (try dsimp only at hSw); go_simp; try (with_reducible rfl))
            simp only [Act.put, List.setIfInBounds_toArray, List.set_cons_zero, List.set_cons_succ]
            refine wpAnyH_take (i := 6) (oi := ⟨some 88, _, _, _, _, _⟩) (v := ?_) rfl (by kernel_rfl) (by kernel_rfl) (by kernel_rfl) (fun _ _ _ h => h) (Or.inl ⟨by rfl, ?_⟩) (by exact hHeld) ?_
            rotate_left
            · (intro w hSw; (try dsimp only at hSw); go_simp; try (with_reducible rfl))
            simp only [Act.put, List.setIfInBounds_toArray, List.set_cons_zero, List.set_cons_succ]
            refine wpAnyH_take (i := 7) (oi := ⟨some 89, _, _, _, _, _⟩) (v := ?_) rfl (by kernel_rfl) (by kernel_rfl) (by kernel_rfl) (fun _ _ _ h => h) (Or.inl ⟨by rfl, ?_⟩) (by exact hHeld) ?_
            rotate_left
            · (intro w hSw; (try dsimp only at hSw); go_simp; try (with_reducible rfl))
            simp only [Act.put, List.setIfInBounds_toArray, List.set_cons_zero, List.set_cons_succ]
            refine wpAnyH_take (i := 8) (oi := ⟨some 90, _, _, _, _, _⟩) (v := ?_) rfl (by kernel_rfl) (by kernel_rfl) (by kernel_rfl) (fun _ _ _ h => h) (Or.inl ⟨by rfl, ?_⟩) (by exact hHeld) ?_
            rotate_left
            · (intro w hSw; (try dsimp only at hSw); go_simp; try (with_reducible rfl))
            simp only [Act.put, List.setIfInBounds_toArray, List.set_cons_zero, List.set_cons_succ]
            refine wpAnyH_take (i := 9) (oi := ⟨some 91, _, _, _, _, _⟩) (v := ?_) rfl (by kernel_rfl) (by kernel_rfl) (by kernel_rfl) (fun _ _ _ h => h) (Or.inl ⟨by rfl, ?_⟩) (by exact hHeld) ?_
            rotate_left
            · (intro w hSw; (try dsimp only at hSw); go_simp; try (with_reducible rfl))
            simp only [Act.put, List.setIfInBounds_toArray, List.set_cons_zero, List.set_cons_succ]
            refine wpAnyH_take (i := 10) (oi := ⟨some 92, _, _, _, _, _⟩) (v := ?_) rfl (by kernel_rfl) (by kernel_rfl) (by kernel_rfl) (fun _ _ _ h => h) (Or.inl ⟨by rfl, ?_⟩) (by exact hHeld) ?_
            rotate_left
            · (intro w hSw; (try dsimp only at hSw); go_simp; try (with_reducible rfl))
            simp only [Act.put, List.setIfInBounds_toArray, List.set_cons_zero, List.set_cons_succ]
            refine wpAnyH_take (i := 11) (oi := ⟨some 93, _, _, _, _, _⟩) (v := ?_) rfl (by kernel_rfl) (by kernel_rfl) (by kernel_rfl) (fun _ _ _ h => h) (Or.inl ⟨by rfl, ?_⟩) (by exact hHeld) ?_
            rotate_left
            · (intro w hSw; (try dsimp only at hSw); go_simp; try (with_reducible rfl))
            simp only [Act.put, List.setIfInBounds_toArray, List.set_cons_zero, List.set_cons_succ]
            refine wpAnyH_take (i := 12) (oi := ⟨some 94, _, _, _, _, _⟩) (v := ?_) rfl (by kernel_rfl) (by kernel_rfl) (by kernel_rfl) (fun _ _ _ h => h) (Or.inl ⟨by rfl, ?_⟩) (by exact hHeld) ?_
            rotate_left
            · (intro w hSw; (try dsimp only at hSw); go_simp; try (with_reducible rfl))
            simp only [Act.put, List.setIfInBounds_toArray, List.set_cons_zero, List.set_cons_succ]
            refine wpAnyH_take (i := 13) (oi := ⟨some 95, _, _, _, _, _⟩) (v := ?_) rfl (by kernel_rfl) (by kernel_rfl) (by kernel_rfl) (fun _ _ _ h => h) (Or.inl ⟨by rfl, ?_⟩) (by exact hHeld) ?_
            rotate_left
            · (intro w hSw; (try dsimp only at hSw); go_simp; try (with_reducible rfl))
            simp only [Act.put, List.setIfInBounds_toArray, List.set_cons_zero, List.set_cons_succ]
            refine wpAnyH_take (i := 14) (oi := ⟨some 96, _, _, _, _, _⟩) (v := ?_) rfl (by kernel_rfl) (by kernel_rfl) (by kernel_rfl) (fun _ _ _ h => h) (Or.inl ⟨by rfl, ?_⟩) (by exact hHeld) ?_
            rotate_left
            · (intro w hSw; (try dsimp only at hSw); go_simp; try (with_reducible rfl))
            simp only [Act.put, List.setIfInBounds_toArray, List.set_cons_zero, List.set_cons_succ]
            refine wpAnyH_take (i := 15) (oi := ⟨some 97, _, _, _, _, _⟩) (v := undef) rfl (by kernel_rfl) (by kernel_rfl) (by kernel_rfl) (fun _ _ _ h => h) (Or.inr ⟨by rfl, rfl⟩) (by exact hHeld) ?_
            simp only [Act.put, List.setIfInBounds_toArray, List.set_cons_zero, List.set_cons_succ]
            refine wpAnyH_take (i := 16) (oi := ⟨some 98, _, _, _, _, _⟩) (v := undef) rfl (by kernel_rfl) (by kernel_rfl) (by kernel_rfl) (fun _ _ _ h => h) (Or.inr ⟨by rfl, rfl⟩) (by exact hHeld) ?_
            simp only [Act.put, List.setIfInBounds_toArray, List.set_cons_zero, List.set_cons_succ]
            refine wpAnyH_take (i := 17) (oi := ⟨some 99, _, _, _, _, _⟩) (v := undef) rfl (by kernel_rfl) (by kernel_rfl) (by kernel_rfl) (fun _ _ _ h => h) (Or.inr ⟨by rfl, rfl⟩) (by exact hHeld) ?_
            simp only [Act.put, List.setIfInBounds_toArray, List.set_cons_zero, List.set_cons_succ]
            refine wpAnyH_take (i := 18) (oi := ⟨some 100, _, _, _, _, _⟩) (v := undef) rfl (by kernel_rfl) (by kernel_rfl) (by kernel_rfl) (fun _ _ _ h => h) (Or.inr ⟨by rfl, rfl⟩) (by exact hHeld) ?_
            simp only [Act.put, List.setIfInBounds_toArray, List.set_cons_zero, List.set_cons_succ]
            refine wpAnyH_take (i := 19) (oi := ⟨some 101, _, _, _, _, _⟩) (v := undef) rfl (by kernel_rfl) (by kernel_rfl) (by kernel_rfl) (fun _ _ _ h => h) (Or.inr ⟨by rfl, rfl⟩) (by exact hHeld) ?_
            simp only [Act.put, List.setIfInBounds_toArray, List.set_cons_zero, List.set_cons_succ]
            refine wpAnyH_take (i := 20) (oi := ⟨some 102, _, _, _, _, _⟩) (v := undef) rfl (by kernel_rfl) (by kernel_rfl) (by kernel_rfl) (fun _ _ _ h => h) (Or.inr ⟨by rfl, rfl⟩) (by exact hHeld) ?_
            simp only [Act.put, List.setIfInBounds_toArray, List.set_cons_zero, List.set_cons_succ]
            refine wpAnyH_take (i := 21) (oi := ⟨some 103, _, _, _, _, _⟩) (v := undef) rfl (by kernel_rfl) (by kernel_rfl) (by kernel_rfl) (fun _ _ _ h => h) (Or.inr ⟨by rfl, rfl⟩) (by exact hHeld) ?_
            simp only [Act.put, List.setIfInBounds_toArray, List.set_cons_zero, List.set_cons_succ]
            refine wpAnyH_take (i := 22) (oi := ⟨some 104, _, _, _, _, _⟩) (v := undef) rfl (by kernel_rfl) (by kernel_rfl) (by kernel_rfl) (fun _ _ _ h => h) (Or.inr ⟨by rfl, rfl⟩) (by exact hHeld) ?_
            simp only [Act.put, List.setIfInBounds_toArray, List.set_cons_zero, List.set_cons_succ]
            refine wpAnyH_take (i := 23) (oi := ⟨some 105, _, _, _, _, _⟩) (v := undef) rfl (by kernel_rfl) (by kernel_rfl) (by kernel_rfl) (fun _ _ _ h => h) (Or.inr ⟨by rfl, rfl⟩) (by exact hHeld) ?_
            simp only [Act.put, List.setIfInBounds_toArray, List.set_cons_zero, List.set_cons_succ]
            refine wpAnyH_take (i := 24) (oi := ⟨some 106, _, _, _, _, _⟩) (v := undef) rfl (by kernel_rfl) (by kernel_rfl) (by kernel_rfl) (fun _ _ _ h => h) (Or.inr ⟨by rfl, rfl⟩) (by exact hHeld) ?_
            simp only [Act.put, List.setIfInBounds_toArray, List.set_cons_zero, List.set_cons_succ]
            refine wpAnyH_take (i := 25) (oi := ⟨some 107, _, _, _, _, _⟩) (v := undef) rfl (by kernel_rfl) (by kernel_rfl) (by kernel_rfl) (fun _ _ _ h => h) (Or.inr ⟨by rfl, rfl⟩) (by exact hHeld) ?_
            simp only [Act.put, List.setIfInBounds_toArray, List.set_cons_zero, List.set_cons_succ]
            refine wpAnyH_take (i := 26) (oi := ⟨some 108, _, _, _, _, _⟩) (v := undef) rfl (by kernel_rfl) (by kernel_rfl) (by kernel_rfl) (fun _ _ _ h => h) (Or.inr ⟨by rfl, rfl⟩) (by exact hHeld) ?_
            simp only [Act.put, List.setIfInBounds_toArray, List.set_cons_zero, List.set_cons_succ]
            refine wpAnyH_take (i := 27) (oi := ⟨some 109, _, _, _, _, _⟩) (v := undef) rfl (by kernel_rfl) (by kernel_rfl) (by kernel_rfl) (fun _ _ _ h => h) (Or.inr ⟨by rfl, rfl⟩) (by exact hHeld) ?_
            simp only [Act.put, List.setIfInBounds_toArray, List.set_cons_zero, List.set_cons_succ]
            refine wpAnyH_take (i := 28) (oi := ⟨some 110, _, _, _, _, _⟩) (v := undef) rfl (by kernel_rfl) (by kernel_rfl) (by kernel_rfl) (fun _ _ _ h => h) (Or.inr ⟨by rfl, rfl⟩) (by exact hHeld) ?_
            simp only [Act.put, List.setIfInBounds_toArray, List.set_cons_zero, List.set_cons_succ]
            refine wpAnyH_take (i := 29) (oi := ⟨some 111, _, _, _, _, _⟩) (v := undef) rfl (by kernel_rfl) (by kernel_rfl) (by kernel_rfl) (fun _ _ _ h => h) (Or.inr ⟨by rfl, rfl⟩) (by exact hHeld) ?_
            simp only [Act.put, List.setIfInBounds_toArray, List.set_cons_zero, List.set_cons_succ]
            refine wpAnyH_take (i := 30) (oi := ⟨some 112, _, _, _, _, _⟩) (v := ?_) rfl (by kernel_rfl) (by kernel_rfl) (by kernel_rfl) (fun _ _ _ h => h) (Or.inl ⟨by rfl, ?_⟩) (by exact hHeld) ?_
            rotate_left
            · (intro w hSw; (try dsimp only at hSw); go_simp; try (with_reducible rfl))
            simp only [Act.put, List.setIfInBounds_toArray, List.set_cons_zero, List.set_cons_succ]
            refine wpAnyH_take (i := 31) (oi := ⟨some 113, _, _, _, _, _⟩) (v := ?_) rfl (by kernel_rfl) (by kernel_rfl) (by kernel_rfl) (fun _ _ _ h => h) (Or.inl ⟨by rfl, ?_⟩) (by exact hHeld) ?_
            rotate_left
            · (intro w hSw; (try dsimp only at hSw); go_simp; try (with_reducible rfl))
            simp only [Act.put, List.setIfInBounds_toArray, List.set_cons_zero, List.set_cons_succ]
            refine wpAnyH_done (by kernel_rfl) ?_ _
            refine NoPanic.normal ?_
            go_wp2_with fail
            go_loopw [8, 11] (fun kk bb wr => ∃ t : Nat, lo + t ≤ hi + 1 ∧ bb = .int .i64 ((lo + t : Nat) : Int) ∧ kk = .int .i64 ((stAt R 0 + t : Nat) : Int) ∧ IntRow wr 0 3 .i64 (.slice (some ⟨g2, 0, none⟩) l.length k2) l ∧ PairRow wr 0 35 (.slice (some ⟨g3, 0, none⟩) R.length k3) R ∧ Below w.heap.size w wr) (fun _ bb _ => 600 - (intOf bb).toNat)
            case atStart => exact ⟨0, by omega, rfl, rfl, hV2.drew, hP.heap rfl, hB.drew⟩
            case round =>
              clear hV2 hP hB q3 q4
              obtain ⟨t, ht, rfl, rfl, hV2, hP, hB⟩ := hrel
              obtain ⟨q3, q4⟩ := hP.at 0 (lo, hi) hp
              simp only at q3 q4
              obtain ⟨x, hx⟩ : ∃ x : Nat, x = lo + t := ⟨_, rfl⟩
              obtain ⟨y, hy⟩ : ∃ y : Nat, y = stAt R 0 + t := ⟨_, rfl⟩
              rw [← hx, ← hy]
              have HX := Lib.hid hx
              have HY := Lib.hid hy
              by_cases hlt3 : x ≤ hi
              · have hly := HR.out.at 0 (lo, hi) hp t (by simp only; omega)
                rw [← hy] at hly
                obtain ⟨hyl, hyv⟩ := List.getElem?_eq_some_iff.1 hly
                simp only [← hx] at hyv
                have q6 := hV2.at y hyl
                rw [hyv] at q6
                have hxn : ((x : Int) != (x : Int)) = false := by simp
                have hyg : decide ((l.length : Int) ≤ (y : Int)) = false := decide_eq_false (by omega)
                have hyg' : decide (l.length ≤ y) = false := decide_eq_false (by omega)
                have hxd : decide ((x : Int) ≤ (hi : Int)) = true := decide_eq_true (by omega)
                have hxd' : decide (x ≤ hi) = true := decide_eq_true (by omega)
                have hx600 : x ≤ 256 := by omega
                clear hyv hly hx hy
                go_wp2_with fail
                exact ⟨⟨t + 1, by have := HX.out; omega, by rw [show ((lo + (t + 1) : Nat) : Int) = (x : Int) + 1 from by have := HX.out; omega], by rw [show ((stAt R 0 + (t + 1) : Nat) : Int) = (y : Int) + 1 from by have := HY.out; omega], hV2, hP, hB⟩, by simp [intOf]; omega⟩
              · have hxd : decide ((x : Int) ≤ (hi : Int)) = false := decide_eq_false (by omega)
                have hxd' : decide (x ≤ hi) = false := decide_eq_false (by omega)
                have HE := Lib.hid (show y = stAt R (0 + 1) by rw [HS1.out, hy]; omega)
                clear hx hy
                go_wp2_with fail
                exact ⟨⟨0 + 1, by omega, by go_num, by rw [← HE.out], hV2, hP, hB⟩, by simp [intOf]; omega⟩
          · obtain ⟨q3, q4⟩ := hP.at (j + 1) (lo, hi) hp
            obtain ⟨pl, pe, hpp⟩ : ∃ pl pe, R[j]? = some (pl, pe) := ⟨_, _, List.getElem?_eq_getElem (by omega)⟩
            obtain ⟨_, q5⟩ := hP.at j (pl, pe) hpp
            have hgap := HR.out.gap j (pl, pe) (lo, hi) hpp hp
            simp only at q3 q4 q5 hgap
            have hp8 : IntKind.i64.wrap (pe : Int) = (pe : Int) := by rw [IntKind.wrap_i64]; omega
            have hgd : decide ((lo : Int) ≤ (pe : Int) + 1) = false := decide_eq_false (by omega)
            have hj0 : decide ((0 : Int) < (j : Int) + 1) = true := decide_eq_true (by omega)
            have hj1 : (0 : Int) ≤ (j : Int) := by omega
            have hj2 : (j : Int) < (R.length : Int) := by omega
            have hj3 : (0 : Int) ≤ (j : Int) + 1 := by omega
            have hrl2 : R.length ≤ 256 := by omega
            have hj4 : IntKind.i64.wrap (j : Int) = (j : Int) := by rw [IntKind.wrap_i64]; omega
            have hp9 : IntKind.i64.wrap ((pe : Int) + 1) = (pe : Int) + 1 := by rw [IntKind.wrap_i64]; omega
            go_wp2_with fail
            refine wp_region_noPanic ?_
            refine wp_region_held_drew (S := (fun w' => w'.cell? ⟨g3, (j + 1) * 2, none⟩ = some (.int .u8 (lo : Nat)) ∧ w'.cell? ⟨g3, (j + 1) * 2 + 1, none⟩ = some (.int .u8 (hi : Nat)) ∧ w'.cell? ⟨g3, j * 2 + 1, none⟩ = some (.int .u8 (pe : Nat)))) (by kernel_rfl) (by exact ⟨q3, q4, q5⟩) (fun hHeld => ?_)
            refine wpAnyH_take (i := 0) (oi := ⟨some 82, _, _, _, _, _⟩) (v := ?_) rfl (by kernel_rfl) (by kernel_rfl) (by kernel_rfl) (fun _ _ _ h => h) (Or.inl ⟨by rfl, ?_⟩) (by exact hHeld) ?_
            rotate_left
            · (intro w hSw; (try dsimp only at hSw); go_simp; try (with_reducible rfl))
            simp only [Act.put, List.setIfInBounds_toArray, List.set_cons_zero, List.set_cons_succ]
            refine wpAnyH_take (i := 1) (oi := ⟨some 83, _, _, _, _, _⟩) (v := ?_) rfl (by kernel_rfl) (by kernel_rfl) (by kernel_rfl) (fun _ _ _ h => h) (Or.inl ⟨by rfl, ?_⟩) (by exact hHeld) ?_
            rotate_left
            · (intro w hSw; (try dsimp only at hSw); go_simp; try (with_reducible rfl))
            simp only [Act.put, List.setIfInBounds_toArray, List.set_cons_zero, List.set_cons_succ]
            refine wpAnyH_take (i := 2) (oi := ⟨some 84, _, _, _, _, _⟩) (v := ?_) rfl (by kernel_rfl) (by kernel_rfl) (by kernel_rfl) (fun _ _ _ h => h) (Or.inl ⟨by rfl, ?_⟩) (by exact hHeld) ?_
            rotate_left
            · (intro w hSw; (try dsimp only at hSw); go_simp; try (with_reducible rfl))
            simp only [Act.put, List.setIfInBounds_toArray, List.set_cons_zero, List.set_cons_succ]
            refine wpAnyH_take (i := 3) (oi := ⟨some 85, _, _, _, _, _⟩) (v := ?_) rfl (by kernel_rfl) (by kernel_rfl) (by kernel_rfl) (fun _ _ _ h => h) (Or.inl ⟨by rfl, ?_⟩) (by exact hHeld) ?_
            rotate_left
            · (intro w hSw; (try dsimp only at hSw); go_simp; try (with_reducible rfl))
            simp only [Act.put, List.setIfInBounds_toArray, List.set_cons_zero, List.set_cons_succ]
            refine wpAnyH_take (i := 4) (oi := ⟨some 86, _, _, _, _, _⟩) (v := ?_) rfl (by kernel_rfl) (by kernel_rfl) (by kernel_rfl) (fun _ _ _ h => h) (Or.inl ⟨by rfl, ?_⟩) (by exact hHeld) ?_
            rotate_left
            · (intro w hSw; (try dsimp only at hSw); go_simp; try (with_reducible rfl))
            simp only [Act.put, List.setIfInBounds_toArray, List.set_cons_zero, List.set_cons_succ]
            refine wpAnyH_take (i := 5) (oi := ⟨some 87, _, _, _, _, _⟩) (v := ?_) rfl (by kernel_rfl) (by kernel_rfl) (by kernel_rfl) (fun _ _ _ h => h) (Or.inl ⟨by rfl, ?_⟩) (by exact hHeld) ?_
            rotate_left
            · (intro w hSw; (try dsimp only at hSw); go_simp; try (with_reducible rfl))
            simp only [Act.put, List.setIfInBounds_toArray, List.set_cons_zero, List.set_cons_succ]
            refine wpAnyH_take (i := 6) (oi := ⟨some 88, _, _, _, _, _⟩) (v := ?_) rfl (by kernel_rfl) (by kernel_rfl) (by kernel_rfl) (fun _ _ _ h => h) (Or.inl ⟨by rfl, ?_⟩) (by exact hHeld) ?_
            rotate_left
            · (intro w hSw; (try dsimp only at hSw); go_simp; try (with_reducible rfl))
            simp only [Act.put, List.setIfInBounds_toArray, List.set_cons_zero, List.set_cons_succ]
            refine wpAnyH_take (i := 7) (oi := ⟨some 89, _, _, _, _, _⟩) (v := ?_) rfl (by kernel_rfl) (by kernel_rfl) (by kernel_rfl) (fun _ _ _ h => h) (Or.inl ⟨by rfl, ?_⟩) (by exact hHeld) ?_
            rotate_left
            · (intro w hSw; (try dsimp only at hSw); go_simp; try (with_reducible rfl))
            simp only [Act.put, List.setIfInBounds_toArray, List.set_cons_zero, List.set_cons_succ]
            refine wpAnyH_take (i := 8) (oi := ⟨some 90, _, _, _, _, _⟩) (v := ?_) rfl (by kernel_rfl) (by kernel_rfl) (by kernel_rfl) (fun _ _ _ h => h) (Or.inl ⟨by rfl, ?_⟩) (by exact hHeld) ?_
            rotate_left
            · (intro w hSw; (try dsimp only at hSw); go_simp; try (with_reducible rfl))
            simp only [Act.put, List.setIfInBounds_toArray, List.set_cons_zero, List.set_cons_succ]
            refine wpAnyH_take (i := 9) (oi := ⟨some 91, _, _, _, _, _⟩) (v := ?_) rfl (by kernel_rfl) (by kernel_rfl) (by kernel_rfl) (fun _ _ _ h => h) (Or.inl ⟨by rfl, ?_⟩) (by exact hHeld) ?_
            rotate_left
            · (intro w hSw; (try dsimp only at hSw); go_simp; try (with_reducible rfl))
            simp only [Act.put, List.setIfInBounds_toArray, List.set_cons_zero, List.set_cons_succ]
            refine wpAnyH_take (i := 10) (oi := ⟨some 92, _, _, _, _, _⟩) (v := ?_) rfl (by kernel_rfl) (by kernel_rfl) (by kernel_rfl) (fun _ _ _ h => h) (Or.inl ⟨by rfl, ?_⟩) (by exact hHeld) ?_
            rotate_left
            · (intro w hSw; (try dsimp only at hSw); go_simp; try (with_reducible rfl))
            simp only [Act.put, List.setIfInBounds_toArray, List.set_cons_zero, List.set_cons_succ]
            refine wpAnyH_take (i := 11) (oi := ⟨some 93, _, _, _, _, _⟩) (v := ?_) rfl (by kernel_rfl) (by kernel_rfl) (by kernel_rfl) (fun _ _ _ h => h) (Or.inl ⟨by rfl, ?_⟩) (by exact hHeld) ?_
            rotate_left
            · (intro w hSw; (try dsimp only at hSw); go_simp; try (with_reducible rfl))
            simp only [Act.put, List.setIfInBounds_toArray, List.set_cons_zero, List.set_cons_succ]
            refine wpAnyH_take (i := 12) (oi := ⟨some 94, _, _, _, _, _⟩) (v := ?_) rfl (by kernel_rfl) (by kernel_rfl) (by kernel_rfl) (fun _ _ _ h => h) (Or.inl ⟨by rfl, ?_⟩) (by exact hHeld) ?_
            rotate_left
            · (intro w hSw; (try dsimp only at hSw); go_simp; try (with_reducible rfl))
            simp only [Act.put, List.setIfInBounds_toArray, List.set_cons_zero, List.set_cons_succ]
            refine wpAnyH_take (i := 13) (oi := ⟨some 95, _, _, _, _, _⟩) (v := ?_) rfl (by kernel_rfl) (by kernel_rfl) (by kernel_rfl) (fun _ _ _ h => h) (Or.inl ⟨by rfl, ?_⟩) (by exact hHeld) ?_
            rotate_left
            · (intro w hSw; (try dsimp only at hSw); go_simp; try (with_reducible rfl))
            simp only [Act.put, List.setIfInBounds_toArray, List.set_cons_zero, List.set_cons_succ]
            refine wpAnyH_take (i := 14) (oi := ⟨some 96, _, _, _, _, _⟩) (v := ?_) rfl (by kernel_rfl) (by kernel_rfl) (by kernel_rfl) (fun _ _ _ h => h) (Or.inl ⟨by rfl, ?_⟩) (by exact hHeld) ?_
            rotate_left
            · (intro w hSw; (try dsimp only at hSw); go_simp; try (with_reducible rfl))
            simp only [Act.put, List.setIfInBounds_toArray, List.set_cons_zero, List.set_cons_succ]
            refine wpAnyH_take (i := 15) (oi := ⟨some 97, _, _, _, _, _⟩) (v := ?_) rfl (by kernel_rfl) (by kernel_rfl) (by kernel_rfl) (fun _ _ _ h => h) (Or.inl ⟨by rfl, ?_⟩) (by exact hHeld) ?_
            rotate_left
            · (intro w hSw; (try dsimp only at hSw); go_simp; try (with_reducible rfl))
            simp only [Act.put, List.setIfInBounds_toArray, List.set_cons_zero, List.set_cons_succ]
            refine wpAnyH_take (i := 16) (oi := ⟨some 98, _, _, _, _, _⟩) (v := ?_) rfl (by kernel_rfl) (by kernel_rfl) (by kernel_rfl) (fun _ _ _ h => h) (Or.inl ⟨by rfl, ?_⟩) (by exact hHeld) ?_
            rotate_left
            · (intro w hSw; (try dsimp only at hSw); go_simp; try (with_reducible rfl))
            simp only [Act.put, List.setIfInBounds_toArray, List.set_cons_zero, List.set_cons_succ]
            refine wpAnyH_take (i := 17) (oi := ⟨some 99, _, _, _, _, _⟩) (v := ?_) rfl (by kernel_rfl) (by kernel_rfl) (by kernel_rfl) (fun _ _ _ h => h) (Or.inl ⟨by rfl, ?_⟩) (by exact hHeld) ?_
            rotate_left
            · (intro w hSw; (try dsimp only at hSw); go_simp; try (with_reducible rfl))
            simp only [Act.put, List.setIfInBounds_toArray, List.set_cons_zero, List.set_cons_succ]
            refine wpAnyH_take (i := 18) (oi := ⟨some 100, _, _, _, _, _⟩) (v := ?_) rfl (by kernel_rfl) (by kernel_rfl) (by kernel_rfl) (fun _ _ _ h => h) (Or.inl ⟨by rfl, ?_⟩) (by exact hHeld) ?_
            rotate_left
            · (intro w hSw; (try dsimp only at hSw); go_simp; try (with_reducible rfl))
            simp only [Act.put, List.setIfInBounds_toArray, List.set_cons_zero, List.set_cons_succ]
            refine wpAnyH_take (i := 19) (oi := ⟨some 101, _, _, _, _, _⟩) (v := ?_) rfl (by kernel_rfl) (by kernel_rfl) (by kernel_rfl) (fun _ _ _ h => h) (Or.inl ⟨by rfl, ?_⟩) (by exact hHeld) ?_
            rotate_left
            · (intro w hSw; (try dsimp only at hSw); go_simp; try (with_reducible rfl))
            simp only [Act.put, List.setIfInBounds_toArray, List.set_cons_zero, List.set_cons_succ]
            refine wpAnyH_take (i := 20) (oi := ⟨some 102, _, _, _, _, _⟩) (v := ?_) rfl (by kernel_rfl) (by kernel_rfl) (by kernel_rfl) (fun _ _ _ h => h) (Or.inl ⟨by rfl, ?_⟩) (by exact hHeld) ?_
            rotate_left
            · (intro w hSw; (try dsimp only at hSw); go_simp; try (with_reducible rfl))
            simp only [Act.put, List.setIfInBounds_toArray, List.set_cons_zero, List.set_cons_succ]
            refine wpAnyH_take (i := 21) (oi := ⟨some 103, _, _, _, _, _⟩) (v := ?_) rfl (by kernel_rfl) (by kernel_rfl) (by kernel_rfl) (fun _ _ _ h => h) (Or.inl ⟨by rfl, ?_⟩) (by exact hHeld) ?_
            rotate_left
            · (intro w hSw; (try dsimp only at hSw); go_simp; try (with_reducible rfl))
            simp only [Act.put, List.setIfInBounds_toArray, List.set_cons_zero, List.set_cons_succ]
            refine wpAnyH_take (i := 22) (oi := ⟨some 104, _, _, _, _, _⟩) (v := ?_) rfl (by kernel_rfl) (by kernel_rfl) (by kernel_rfl) (fun _ _ _ h => h) (Or.inl ⟨by rfl, ?_⟩) (by exact hHeld) ?_
            rotate_left
            · (intro w hSw; (try dsimp only at hSw); go_simp; try (with_reducible rfl))
            simp only [Act.put, List.setIfInBounds_toArray, List.set_cons_zero, List.set_cons_succ]
            refine wpAnyH_take (i := 23) (oi := ⟨some 105, _, _, _, _, _⟩) (v := ?_) rfl (by kernel_rfl) (by kernel_rfl) (by kernel_rfl) (fun _ _ _ h => h) (Or.inl ⟨by rfl, ?_⟩) (by exact hHeld) ?_
            rotate_left
            · (intro w hSw; (try dsimp only at hSw); go_simp; try (with_reducible rfl))
            simp only [Act.put, List.setIfInBounds_toArray, List.set_cons_zero, List.set_cons_succ]
            refine wpAnyH_take (i := 24) (oi := ⟨some 106, _, _, _, _, _⟩) (v := ?_) rfl (by kernel_rfl) (by kernel_rfl) (by kernel_rfl) (fun _ _ _ h => h) (Or.inl ⟨by rfl, ?_⟩) (by exact hHeld) ?_
            rotate_left
            · (intro w hSw; (try dsimp only at hSw); go_simp; try (with_reducible rfl))
            simp only [Act.put, List.setIfInBounds_toArray, List.set_cons_zero, List.set_cons_succ]
            refine wpAnyH_take (i := 25) (oi := ⟨some 107, _, _, _, _, _⟩) (v := ?_) rfl (by kernel_rfl) (by kernel_rfl) (by kernel_rfl) (fun _ _ _ h => h) (Or.inl ⟨by rfl, ?_⟩) (by exact hHeld) ?_
            rotate_left
            · (intro w hSw; (try dsimp only at hSw); go_simp; try (with_reducible rfl))
            simp only [Act.put, List.setIfInBounds_toArray, List.set_cons_zero, List.set_cons_succ]
            refine wpAnyH_take (i := 26) (oi := ⟨some 108, _, _, _, _, _⟩) (v := ?_) rfl (by kernel_rfl) (by kernel_rfl) (by kernel_rfl) (fun _ _ _ h => h) (Or.inl ⟨by rfl, ?_⟩) (by exact hHeld) ?_
            rotate_left
            · (intro w hSw; (try dsimp only at hSw); go_simp; try (with_reducible rfl))
            simp only [Act.put, List.setIfInBounds_toArray, List.set_cons_zero, List.set_cons_succ]
            refine wpAnyH_take (i := 27) (oi := ⟨some 109, _, _, _, _, _⟩) (v := ?_) rfl (by kernel_rfl) (by kernel_rfl) (by kernel_rfl) (fun _ _ _ h => h) (Or.inl ⟨by rfl, ?_⟩) (by exact hHeld) ?_
            rotate_left
            · (intro w hSw; (try dsimp only at hSw); go_simp; try (with_reducible rfl))
            simp only [Act.put, List.setIfInBounds_toArray, List.set_cons_zero, List.set_cons_succ]
            refine wpAnyH_take (i := 28) (oi := ⟨some 110, _, _, _, _, _⟩) (v := ?_) rfl (by kernel_rfl) (by kernel_rfl) (by kernel_rfl) (fun _ _ _ h => h) (Or.inl ⟨by rfl, ?_⟩) (by exact hHeld) ?_
            rotate_left
            · (intro w hSw; (try dsimp only at hSw); go_simp; try (with_reducible rfl))
            simp only [Act.put, List.setIfInBounds_toArray, List.set_cons_zero, List.set_cons_succ]
            refine wpAnyH_take (i := 29) (oi := ⟨some 111, _, _, _, _, _⟩) (v := ?_) rfl (by kernel_rfl) (by kernel_rfl) (by kernel_rfl) (fun _ _ _ h => h) (Or.inl ⟨by rfl, ?_⟩) (by exact hHeld) ?_
            rotate_left
            · (intro w hSw; (try dsimp only at hSw); go_simp; try (with_reducible rfl))
            simp only [Act.put, List.setIfInBounds_toArray, List.set_cons_zero, List.set_cons_succ]
            refine wpAnyH_take (i := 30) (oi := ⟨some 112, _, _, _, _, _⟩) (v := ?_) rfl (by kernel_rfl) (by kernel_rfl) (by kernel_rfl) (fun _ _ _ h => h) (Or.inl ⟨by rfl, ?_⟩) (by exact hHeld) ?_
            rotate_left
            · (intro w hSw; (try dsimp only at hSw); go_simp; try (with_reducible rfl))
            simp only [Act.put, List.setIfInBounds_toArray, List.set_cons_zero, List.set_cons_succ]
            refine wpAnyH_take (i := 31) (oi := ⟨some 113, _, _, _, _, _⟩) (v := ?_) rfl (by kernel_rfl) (by kernel_rfl) (by kernel_rfl) (fun _ _ _ h => h) (Or.inl ⟨by rfl, ?_⟩) (by exact hHeld) ?_
            rotate_left
            · (intro w hSw; (try dsimp only at hSw); go_simp; try (with_reducible rfl))
            simp only [Act.put, List.setIfInBounds_toArray, List.set_cons_zero, List.set_cons_succ]
            refine wpAnyH_done (by kernel_rfl) ?_ _
            refine NoPanic.normal ?_
            go_wp2_with fail
            go_loopw [8, 11] (fun kk bb wr => ∃ t : Nat, lo + t ≤ hi + 1 ∧ bb = .int .i64 ((lo + t : Nat) : Int) ∧ kk = .int .i64 ((stAt R (j + 1) + t : Nat) : Int) ∧ IntRow wr 0 3 .i64 (.slice (some ⟨g2, 0, none⟩) l.length k2) l ∧ PairRow wr 0 35 (.slice (some ⟨g3, 0, none⟩) R.length k3) R ∧ Below w.heap.size w wr) (fun _ bb _ => 600 - (intOf bb).toNat)
            case atStart => exact ⟨0, by omega, rfl, rfl, hV2.drew, hP.heap rfl, hB.drew⟩
            case round =>
              clear hV2 hP hB q3 q4 q5
              obtain ⟨t, ht, rfl, rfl, hV2, hP, hB⟩ := hrel
              obtain ⟨q3, q4⟩ := hP.at (j + 1) (lo, hi) hp
              simp only at q3 q4
              obtain ⟨x, hx⟩ : ∃ x : Nat, x = lo + t := ⟨_, rfl⟩
              obtain ⟨y, hy⟩ : ∃ y : Nat, y = stAt R (j + 1) + t := ⟨_, rfl⟩
              rw [← hx, ← hy]
              have HX := Lib.hid hx
              have HY := Lib.hid hy
              by_cases hlt3 : x ≤ hi
              · have hly := HR.out.at (j + 1) (lo, hi) hp t (by simp only; omega)
                rw [← hy] at hly
                obtain ⟨hyl, hyv⟩ := List.getElem?_eq_some_iff.1 hly
                simp only [← hx] at hyv
                have q6 := hV2.at y hyl
                rw [hyv] at q6
                have hxn : ((x : Int) != (x : Int)) = false := by simp
                have hyg : decide ((l.length : Int) ≤ (y : Int)) = false := decide_eq_false (by omega)
                have hyg' : decide (l.length ≤ y) = false := decide_eq_false (by omega)
                have hxd : decide ((x : Int) ≤ (hi : Int)) = true := decide_eq_true (by omega)
                have hxd' : decide (x ≤ hi) = true := decide_eq_true (by omega)
                have hx600 : x ≤ 256 := by omega
                clear hyv hly hx hy
                go_wp2_with fail
                exact ⟨⟨t + 1, by have := HX.out; omega, by rw [show ((lo + (t + 1) : Nat) : Int) = (x : Int) + 1 from by have := HX.out; omega], by rw [show ((stAt R (j + 1) + (t + 1) : Nat) : Int) = (y : Int) + 1 from by have := HY.out; omega], hV2, hP, hB⟩, by simp [intOf]; omega⟩
              · have hxd : decide ((x : Int) ≤ (hi : Int)) = false := decide_eq_false (by omega)
                have hxd' : decide (x ≤ hi) = false := decide_eq_false (by omega)
                have HE := Lib.hid (show y = stAt R ((j + 1) + 1) by rw [HS1.out, hy]; omega)
                clear hx hy
                go_wp2_with fail
                exact ⟨⟨(j + 1) + 1, by omega, by go_num, by rw [← HE.out], hV2, hP, hB⟩, by simp [intOf]; omega⟩
        · have hge2 : R.length ≤ i := by omega
          have hie : i = R.length := by omega
          have hst : stAt R i = l.length := by rw [hie]; exact HAll.out
          clear hlt hik hie
          have hfin : ((stAt R i : Int) == (l.length : Int)) = true := by rw [hst]; simp
          clear hst
          go_wp2_with fail
          go_ret
          exact ⟨rfl, hB⟩

set_option maxRecDepth 100000 in
set_option maxHeartbeats 8000000 in
theorem lawListsNone (s : St) (hs : s.Ok) (w : World) (hT : Tab w) (hL : s.list.length = 0) :
    Calls Tryd.prog 3 #[.agg #[.int .u64 s.w0, .int .u64 s.w1, .int .u64 s.w2, .int .u64 s.w3]] w fun e w' => e = .returned (.bool true) ∧ Below w.heap.size w w' := by
  have hll := s.list_len
  have HAll := Lib.hid (fun W hW => setAll s hs W hW)
  have HBytes := Lib.hid (fun W => refBytes s hs W)
  have HCount := Lib.hid (fun W => setCount s hs W)
  have HLeast := Lib.hid (fun W hW => setLeast s hs W hW)
  have HRanges := Lib.hid (fun W hW => setRanges s hs W hW)
  have H256 := Lib.hid s.list_256
  obtain ⟨l, hl⟩ : ∃ l : List Nat, l = s.list := ⟨_, rfl⟩
  rw [← hl] at hll HAll HBytes HCount HLeast HRanges H256 hL
  clear hl
  have HT := Lib.hid hT
  clear hT
  have hln : l = [] := List.eq_nil_of_length_eq_zero hL
  subst hln
  have hlo : leastOf [] = (0, false) := rfl
  rw [hlo] at HLeast
  clear hlo hL
  have hnn : ((([] : List Nat).length : Int) != (([] : List Nat).length : Int)) = false := by simp
  have hne : ((([] : List Nat).length : Int) == (([] : List Nat).length : Int)) = true := by simp
  go_enter Tryd.func3, Tryd.ntmps3
  go_wp2_with fail
  refine (awakeYes _).mono ?_
  rintro e w1 ⟨rfl, hb1⟩
  have hA := (SetAt.new w 24 s).next hb1
  have hB : Below w.heap.size w w1 := ((Below.refl _ _).alloc (Nat.le_refl _) _).trans (hb1.mono (by simp))
  clear hb1
  obtain ⟨c0, c1, c2, c3⟩ := hA.cells
  go_wp2_with fail
  refine (HAll.out _ (HT.out.below hB)).mono ?_
  rintro e w2 ⟨v1, rfl, hV1, hb2⟩
  obtain ⟨A1, k1, rfl⟩ := hV1.len
  have hA := hA.step hb2 rfl
  have hB := below_step hB hb2 rfl rfl rfl rfl
  have hV1 := hV1.mono (Nat.zero_le _)
  clear hb2 c0 c1 c2 c3
  obtain ⟨c0, c1, c2, c3⟩ := hA.cells
  go_wp2_with fail
  refine (HBytes.out _).mono ?_
  rintro e w3 ⟨v2, rfl, hV2, hb3⟩
  obtain ⟨A2, k2, rfl⟩ := hV2.len
  have hA := hA.step hb3 rfl
  have hB := below_step hB hb3 rfl rfl rfl rfl
  have hV1 := hV1.step hb3 rfl
  have hV2 := hV2.mono (Nat.zero_le _)
  clear hb3 c0 c1 c2 c3
  obtain ⟨c0, c1, c2, c3⟩ := hA.cells
  go_wp2_with fail
  refine (HCount.out _).mono ?_
  rintro e w4 ⟨rfl, hb4⟩
  have hA := hA.step hb4 rfl
  have hB := below_step hB hb4 rfl rfl rfl rfl
  have hV1 := hV1.step hb4 rfl
  have hV2 := hV2.step hb4 rfl
  clear hb4 c0 c1 c2 c3
  go_wp2_with fail
  go_loopw [32] (fun i wr => ∃ k : Nat, k ≤ ([] : List Nat).length ∧ i = .int .i64 k ∧ SetAt wr w.heap.size 24 s ∧ IntRow wr 0 5 .u8 (.slice A1 ([] : List Nat).length k1) [] ∧ IntRow wr 0 3 .i64 (.slice A2 ([] : List Nat).length k2) [] ∧ Below w.heap.size w wr) (fun i _ => ([] : List Nat).length - (intOf i).toNat)
  case atStart => exact ⟨0, Nat.zero_le _, rfl, hA, hV1, hV2, hB⟩
  case round =>
    clear hA hV1 hV2 hB
    obtain ⟨k, hk, rfl, hA, hV1, hV2, hB⟩ := hrel
    by_cases hlt : k < ([] : List Nat).length
    · exact absurd hlt (by simp)
    · have hge : ([] : List Nat).length ≤ k := by omega
      clear hlt hk
      obtain ⟨c0, c1, c2, c3⟩ := hA.cells
      go_wp2_with fail
      refine (HLeast.out _ (HT.out.below hB)).mono ?_
      rintro e w5 ⟨rfl, hb5⟩
      have hA := hA.step hb5 rfl
      have hV1 := hV1.step hb5 rfl
      have hV2 := hV2.step hb5 rfl
      have hB := below_step hB hb5 rfl rfl rfl rfl
      clear hb5 c0 c1 c2 c3
      obtain ⟨c0, c1, c2, c3⟩ := hA.cells
      go_wp2_with fail
      refine (HRanges.out _ (HT.out.below hB)).mono ?_
      rintro e w6 ⟨v3, R, rfl, hP, hR, hb6⟩
      obtain ⟨A3, k3, rfl⟩ := hP.len
      have hV2 := hV2.step hb6 rfl
      have hB := below_step hB hb6 rfl rfl rfl rfl
      have hP := hP.mono (Nat.zero_le _)
      have hrl := rg_len hR
      clear hb6 c0 c1 c2 c3 hA hV1
      have HR := Lib.hid hR
      have HAll := Lib.hid (stAt_all R [] hR)
      clear hR
      go_wp2_with fail
      go_loopw [8, 79] (fun kk ii wr => ∃ i : Nat, i ≤ R.length ∧ ii = .int .i64 i ∧ kk = .int .i64 (stAt R i : Nat) ∧ IntRow wr 0 3 .i64 (.slice A2 ([] : List Nat).length k2) [] ∧ PairRow wr 0 35 (.slice A3 R.length k3) R ∧ Below w.heap.size w wr) (fun _ ii _ => R.length - (intOf ii).toNat)
      case atStart => exact ⟨0, Nat.zero_le _, rfl, by rw [stAt_zero]; rfl, hV2, hP, hB⟩
      case round =>
        clear hV2 hP hB
        obtain ⟨i, hik, rfl, rfl, hV2, hP, hB⟩ := hrel
        by_cases hlt : i < R.length
        · exact absurd hlt (by have : R.length ≤ 0 := hrl; omega)
        · have hge2 : R.length ≤ i := by omega
          have hie : i = R.length := by omega
          have hst : stAt R i = ([] : List Nat).length := by rw [hie]; exact HAll.out
          clear hlt hik hie
          have hfin : ((stAt R i : Int) == 0) = true := by rw [hst]; rfl
          clear hst
          go_wp2_with fail
          go_ret
          exact ⟨rfl, hB⟩


end Go.Proofs.YtdcmalfjciekoaaDoor
