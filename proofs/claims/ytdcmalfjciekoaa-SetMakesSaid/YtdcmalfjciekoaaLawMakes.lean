/- SetMakes answers true, of any bytes and any two ends. -/
import Derived.Test.YtdcmalfjciekoaaProg
import Derived.Test.YtdcmalfjciekoaaWords
import Derived.Test.YtdcmalfjciekoaaHas
import Derived.Test.YtdcmalfjciekoaaOf
import Derived.Test.YtdcmalfjciekoaaPut
import Derived.Test.YtdcmalfjciekoaaRange
import Derived.Deep.RegionHeld3
import Derived.Deep.RegionWith
namespace Go.Proofs.Ytdcmalfjciekoaa
open Go.RowKit
set_option linter.unusedSimpArgs false

set_option maxRecDepth 100000 in
set_option maxHeartbeats 4000000 in
theorem lawMakesLong (A : Option Addr) (n c : Nat) (lo hi : Nat) (hm : n ≤ 9223372036854775807) (hn : 500 < n) (w : World) :
    Calls Try.prog 4 #[.slice A n c, .int .u8 lo, .int .u8 hi] w fun e w' => e = .returned (.bool true) ∧ Below w.heap.size w w' := by
  go_enter Try.func4, Try.ntmps4
  go_wp2_with fail
  refine (awakeYes _).mono ?_
  rintro e w1 ⟨rfl, hb1⟩
  go_wp2_with fail
  refine (awakeYes _).mono ?_
  rintro e w2 ⟨rfl, hb2⟩
  go_wp2_with fail
  go_ret
  exact ⟨rfl, hb1.trans (hb2.mono hb1.size)⟩

set_option maxRecDepth 100000 in
set_option maxHeartbeats 4000000 in
theorem lawMakesShort (A : Option Addr) (n c : Nat) (l : List Nat) (lo hi : Nat) (hlo : lo < 256) (hhi : hi < 256) (w : World) (h : IsBytes w A n l) (hn : n ≤ 500) :
    Calls Try.prog 4 #[.slice A n c, .int .u8 lo, .int .u8 hi] w fun e w' => e = .returned (.bool true) ∧ Below w.heap.size w w' := by
  have HB := Lib.hid h
  have HL := Lib.hid h.1
  clear h
  have hl8 : IntKind.i64.wrap (lo : Int) = (lo : Int) := by rw [IntKind.wrap_i64]; omega
  have hh8 : IntKind.i64.wrap (hi : Int) = (hi : Int) := by rw [IntKind.wrap_i64]; omega
  go_enter Try.func4, Try.ntmps4
  go_wp2_with fail
  refine (awakeYes _).mono ?_
  rintro e w1 ⟨rfl, hb1⟩
  go_wp2_with fail
  go_loopw [21] (fun i wr => ∃ k : Nat, k ≤ n ∧ i = .int .i64 k ∧ SetAt wr w1.heap.size 24 (St.ofTake l k) ∧ SetAt wr (w1.heap.size + 1) 24 St.zero ∧ Below w.heap.size w wr) (fun i _ => n - (intOf i).toNat)
  case atStart =>
    refine ⟨0, Nat.zero_le _, rfl, ?_, ?_, ?_⟩
    · rw [St.ofTake_zero]
      exact (SetAt.new _ _ St.zero).alloc _
    · have h := SetAt.new (w1.alloc (.cells #[.int .u64 0, .int .u64 0, .int .u64 0, .int .u64 0] 24)) 24 St.zero
      simp only [World.size_alloc] at h
      exact h
    · exact (hb1.alloc hb1.size _).alloc (by have := hb1.size; simp; omega) _
  case round =>
    obtain ⟨k, hk, rfl, hW, hR, hB⟩ := hrel
    by_cases hlt : k < n
    · have hl : k < l.length := by have := HL.out; omega
      obtain ⟨b, off, rfl, hb, hc⟩ := HB.out.2.2.2 (by omega)
      have hcell := (bcell hB).1 b (off + k) hb
      rw [hc k hl] at hcell
      have hbl := HB.out.2.2.1 k hl
      have HP := Lib.hid (St.ofTake_succ l k hl)
      have hb1s := hb1.size
      clear hc
      obtain ⟨x, hx⟩ : ∃ x : Nat, x = l[k] := ⟨_, rfl⟩
      rw [← hx] at hcell hbl
      have HX := Lib.hid hx
      clear hx
      have hx8 : IntKind.i64.wrap (x : Int) = (x : Int) := by rw [IntKind.wrap_i64]; omega
      have hk0 : (0 : Int) ≤ (k : Int) := by omega
      have hkn : (k : Int) < (n : Int) := by omega
      obtain ⟨c0, c1, c2, c3⟩ := hW.cells
      go_wp2_with fail
      first
        | (go_region_with (first
            | (go_at_call 13; (with_reducible refine (refPut (St.ofTake l k) (St.ofTake_ok l k) x hbl _).mono ?_); rintro e w3 ⟨rfl, hb3⟩; have hW := hW.step hb3 rfl; have hR := hR.step hb3 rfl; have hB := below_step hB hb3 rfl rfl rfl rfl; clear c0 c1 c2 c3; obtain ⟨c0, c1, c2, c3⟩ := hW.cells; obtain ⟨f0, f1, f2, f3⟩ := hW.frees)))
        | fail
      all_goals go_wp2_with fail
      all_goals exact ⟨⟨k + 1, by omega, by go_num, by rw [HP.out, ← HX.out]; exact hW.store _, hR.other (by omega) _, below_store hB (by omega) _⟩, by simp [intOf]; omega⟩
    · have hkn : n = k := by omega
      subst hkn
      have he := HL.out
      rw [he, St.ofTake_all] at hW
      clear he
      have hb1s := hb1.size
      go_wp2_with fail
      go_loopw [10] (fun i wr => ∃ m : Nat, m ≤ hi + 1 - lo ∧ i = .int .i64 ((lo + m : Nat) : Int) ∧ SetAt wr w1.heap.size 24 (l.foldl St.put St.zero) ∧ SetAt wr (w1.heap.size + 1) 24 (St.run lo m) ∧ Below w.heap.size w wr) (fun i _ => 600 - (intOf i).toNat)
      case atStart => exact ⟨0, Nat.zero_le _, by simp, hW, hR, hB⟩
      case round =>
        clear hW hR hB
        obtain ⟨m, hm, rfl, hW, hR, hB⟩ := hrel
        obtain ⟨x, hx⟩ : ∃ x : Nat, x = lo + m := ⟨_, rfl⟩
        rw [← hx]
        have HX := Lib.hid hx
        by_cases hlt : m < hi + 1 - lo
        · have hx256 : x < 256 := by omega
          have hxhi : x ≤ hi := by omega
          clear hx
          obtain ⟨c0, c1, c2, c3⟩ := hR.cells
          go_wp2_with fail
          refine (refPut (St.run lo m) (St.run_ok lo m) x hx256 _).mono ?_
          rintro e w3 ⟨rfl, hb3⟩
          have hW := hW.step hb3 rfl
          have hR := hR.step hb3 rfl
          have hB := below_step hB hb3 rfl rfl rfl rfl
          clear hb3 c0 c1 c2 c3
          obtain ⟨c0, c1, c2, c3⟩ := hR.cells
          obtain ⟨f0, f1, f2, f3⟩ := hR.frees
          go_wp2_with fail
          exact ⟨⟨m + 1, by omega, by rw [show ((lo + (m + 1) : Nat) : Int) = (x : Int) + 1 from by have := HX.out; omega], hW.other (by omega) _, by show SetAt _ _ _ ((St.run lo m).put (lo + m)); rw [← HX.out]; exact hR.store _, below_store hB (by omega) _⟩, by simp [intOf]; omega⟩
        · have hxhi : hi < x := by omega
          have hmm : m = hi + 1 - lo := by omega
          clear hx
          rw [hmm] at hR
          clear hmm
          have hq1 := fun W => setEq W (l.foldl St.put St.zero) (l.foldl St.put St.zero) true (St.eqb_self _)
          have hq2 := fun W => setEq W (St.run lo (hi + 1 - lo)) (St.run lo (hi + 1 - lo)) true (St.eqb_self _)
          go_wp2_with fail
          refine wp_region_noPanic ?_
          refine wp_region_held_drew (S := (fun w' => w'.cell? ⟨w1.heap.size, 0, none⟩ = some (.int .u64 (l.foldl St.put St.zero).w0) ∧ w'.cell? ⟨w1.heap.size, 1, none⟩ = some (.int .u64 (l.foldl St.put St.zero).w1) ∧ w'.cell? ⟨w1.heap.size, 2, none⟩ = some (.int .u64 (l.foldl St.put St.zero).w2) ∧ w'.cell? ⟨w1.heap.size, 3, none⟩ = some (.int .u64 (l.foldl St.put St.zero).w3) ∧ w'.cell? ⟨w1.heap.size + 1, 0, none⟩ = some (.int .u64 (St.run lo (hi + 1 - lo)).w0) ∧ w'.cell? ⟨w1.heap.size + 1, 1, none⟩ = some (.int .u64 (St.run lo (hi + 1 - lo)).w1) ∧ w'.cell? ⟨w1.heap.size + 1, 2, none⟩ = some (.int .u64 (St.run lo (hi + 1 - lo)).w2) ∧ w'.cell? ⟨w1.heap.size + 1, 3, none⟩ = some (.int .u64 (St.run lo (hi + 1 - lo)).w3))) (by kernel_rfl) (by exact sets2 hW hR) (fun hHeld => ?_)
          refine wpAnyH_take (i := 0) (oi := ⟨some 43, _, _, _, _, _⟩) (v := ?_) rfl (by kernel_rfl) (by kernel_rfl) (by kernel_rfl) (fun _ _ _ h => h) (Or.inl ⟨by rfl, ?_⟩) (by exact hHeld) ?_
          rotate_left
          · (intro w hSw; (try dsimp only at hSw); go_simp; try (with_reducible rfl))
          simp only [Act.put, List.setIfInBounds_toArray, List.set_cons_zero, List.set_cons_succ]
          refine wpAnyH_take (i := 2) (oi := ⟨some 45, _, _, _, _, _⟩) (v := ?_) rfl (by kernel_rfl) (by kernel_rfl) (by kernel_rfl) (fun _ _ _ h => h) (Or.inl ⟨by rfl, ?_⟩) (by exact hHeld) ?_
          rotate_left
          · (intro w hSw; (try dsimp only at hSw); go_simp; try (with_reducible rfl))
          simp only [Act.put, List.setIfInBounds_toArray, List.set_cons_zero, List.set_cons_succ]
          refine wpAnyH_ready (rs := [1]) (by kernel_rfl) (by simp) ?_
          refine AllReadyH.cons (o := ⟨some 44, _, _, _, _, _⟩) rfl (fun K hK => ?_) AllReadyH.nil
          go_simp
          ((with_reducible refine (setOf l A n c _ (HB.out.below hB).drew).mono ?_))
          rintro e w3 ⟨rfl, hb3⟩
          have hW := hW.step hb3 rfl
          have hR := hR.step hb3 rfl
          have hB := below_step hB hb3 rfl rfl rfl rfl
          clear hb3
          dsimp only
          refine hK.out _ _ ?_ (fun hHeld => ?_)
          · exact sets2 hW hR
          clear hK K
          try simp only [Act.put, List.setIfInBounds_toArray, List.set_cons_zero, List.set_cons_succ]
          refine wpAnyH_take (i := 3) (oi := ⟨some 46, _, _, _, _, _⟩) (v := ?_) rfl (by kernel_rfl) (by kernel_rfl) (by kernel_rfl) (fun _ _ _ h => h) (Or.inl ⟨by rfl, ?_⟩) (by exact hHeld) ?_
          rotate_left
          · (intro w hSw; (try dsimp only at hSw); go_simp; try (with_reducible rfl))
          simp only [Act.put, List.setIfInBounds_toArray, List.set_cons_zero, List.set_cons_succ]
          refine wpAnyH_take (i := 4) (oi := ⟨some 47, _, _, _, _, _⟩) (v := ?_) rfl (by kernel_rfl) (by kernel_rfl) (by kernel_rfl) (fun _ _ _ h => h) (Or.inl ⟨by rfl, ?_⟩) (by exact hHeld) ?_
          rotate_left
          · (intro w hSw; (try dsimp only at hSw); go_simp; try (with_reducible rfl))
          simp only [Act.put, List.setIfInBounds_toArray, List.set_cons_zero, List.set_cons_succ]
          refine wpAnyH_take (i := 5) (oi := ⟨some 48, _, _, _, _, _⟩) (v := ?_) rfl (by kernel_rfl) (by kernel_rfl) (by kernel_rfl) (fun _ _ _ h => h) (Or.inl ⟨by rfl, ?_⟩) (by exact hHeld) ?_
          rotate_left
          · (intro w hSw; (try dsimp only at hSw); go_simp; try (with_reducible rfl))
          simp only [Act.put, List.setIfInBounds_toArray, List.set_cons_zero, List.set_cons_succ]
          refine wpAnyH_take (i := 6) (oi := ⟨some 49, _, _, _, _, _⟩) (v := ?_) rfl (by kernel_rfl) (by kernel_rfl) (by kernel_rfl) (fun _ _ _ h => h) (Or.inl ⟨by rfl, ?_⟩) (by exact hHeld) ?_
          rotate_left
          · (intro w hSw; (try dsimp only at hSw); go_simp; try (with_reducible rfl))
          simp only [Act.put, List.setIfInBounds_toArray, List.set_cons_zero, List.set_cons_succ]
          refine wpAnyH_take (i := 8) (oi := ⟨some 51, _, _, _, _, _⟩) (v := ?_) rfl (by kernel_rfl) (by kernel_rfl) (by kernel_rfl) (fun _ _ _ h => h) (Or.inl ⟨by rfl, ?_⟩) (by exact hHeld) ?_
          rotate_left
          · (intro w hSw; (try dsimp only at hSw); go_simp; try (with_reducible rfl))
          simp only [Act.put, List.setIfInBounds_toArray, List.set_cons_zero, List.set_cons_succ]
          refine wpAnyH_ready (rs := [7]) (by kernel_rfl) (by simp) ?_
          refine AllReadyH.cons (o := ⟨some 50, _, _, _, _, _⟩) rfl (fun K hK => ?_) AllReadyH.nil
          go_simp
          ((with_reducible refine (setRange lo hi hlo hhi _).mono ?_))
          rintro e w3 ⟨rfl, hb3⟩
          have hW := hW.step hb3 rfl
          have hR := hR.step hb3 rfl
          have hB := below_step hB hb3 rfl rfl rfl rfl
          clear hb3
          dsimp only
          refine hK.out _ _ ?_ (fun hHeld => ?_)
          · exact sets2 hW hR
          clear hK K
          try simp only [Act.put, List.setIfInBounds_toArray, List.set_cons_zero, List.set_cons_succ]
          refine wpAnyH_take (i := 9) (oi := ⟨some 52, _, _, _, _, _⟩) (v := ?_) rfl (by kernel_rfl) (by kernel_rfl) (by kernel_rfl) (fun _ _ _ h => h) (Or.inl ⟨by rfl, ?_⟩) (by exact hHeld) ?_
          rotate_left
          · (intro w hSw; (try dsimp only at hSw); go_simp; try (with_reducible rfl))
          simp only [Act.put, List.setIfInBounds_toArray, List.set_cons_zero, List.set_cons_succ]
          refine wpAnyH_take (i := 10) (oi := ⟨some 53, _, _, _, _, _⟩) (v := ?_) rfl (by kernel_rfl) (by kernel_rfl) (by kernel_rfl) (fun _ _ _ h => h) (Or.inl ⟨by rfl, ?_⟩) (by exact hHeld) ?_
          rotate_left
          · (intro w hSw; (try dsimp only at hSw); go_simp; try (with_reducible rfl))
          simp only [Act.put, List.setIfInBounds_toArray, List.set_cons_zero, List.set_cons_succ]
          refine wpAnyH_take (i := 11) (oi := ⟨some 6, _, _, _, _, _⟩) (v := ?_) rfl (by kernel_rfl) (by kernel_rfl) (by kernel_rfl) (fun _ _ _ h => h) (Or.inl ⟨by rfl, ?_⟩) (by exact hHeld) ?_
          rotate_left
          · (intro w hSw; (try dsimp only at hSw); go_simp; try (with_reducible rfl))
          simp only [Act.put, List.setIfInBounds_toArray, List.set_cons_zero, List.set_cons_succ]
          refine wpAnyH_done (by kernel_rfl) ?_ _
          refine NoPanic.normal ?_
          go_wp2_with fail
          go_ret
          exact ⟨rfl, hB⟩

theorem lawMakes (A : Option Addr) (n c : Nat) (l : List Nat) (lo hi : Nat) (hlo : lo < 256) (hhi : hi < 256) (w : World) (h : IsBytes w A n l) :
    Calls Try.prog 4 #[.slice A n c, .int .u8 lo, .int .u8 hi] w fun e w' => e = .returned (.bool true) ∧ Below w.heap.size w w' := by
  by_cases hn : n ≤ 500
  · exact lawMakesShort A n c l lo hi hlo hhi w h hn
  · exact lawMakesLong A n c lo hi h.2.1 (by omega) w

end Go.Proofs.Ytdcmalfjciekoaa
