/- SetOps answers true, of any two sets. -/
import Derived.Test.YtdcmalfjciekoaaProg
import Derived.Test.YtdcmalfjciekoaaWords
import Derived.Test.YtdcmalfjciekoaaHas
import Derived.Test.YtdcmalfjciekoaaOf
import Derived.Test.YtdcmalfjciekoaaOps
import Derived.Test.YtdcmalfjciekoaaOpsInv
import Derived.Test.YtdcmalfjciekoaaAnyOrder
import Derived.Deep.RegionHeld3
namespace Go.Proofs.Ytdcmalfjciekoaa
open Go.RowKit
set_option linter.unusedSimpArgs false

set_option maxRecDepth 100000 in
set_option maxHeartbeats 8000000 in
theorem lawOps (s t : St) (hs : s.Ok) (ht : t.Ok) (w : World) :
    Calls Try.prog 3 #[.agg #[.int .u64 s.w0, .int .u64 s.w1, .int .u64 s.w2, .int .u64 s.w3], .agg #[.int .u64 t.w0, .int .u64 t.w1, .int .u64 t.w2, .int .u64 t.w3]] w fun e w' => e = .returned (.bool true) ∧ Below w.heap.size w w' := by
  go_enter Try.func3, Try.ntmps3
  go_wp2_with fail
  refine (awakeYes _).mono ?_
  rintro e w1 ⟨rfl, hb1⟩
  have hA := ((SetAt.new w 24 s).alloc (.cells #[.int .u64 t.w0, .int .u64 t.w1, .int .u64 t.w2, .int .u64 t.w3] 24)).next hb1
  have hT := (SetAt.new (w.alloc (.cells #[.int .u64 s.w0, .int .u64 s.w1, .int .u64 s.w2, .int .u64 s.w3] 24)) 24 t).next hb1
  have hB : Below w.heap.size w w1 := (((Below.refl _ _).alloc (Nat.le_refl _) _).alloc (by simp) _).trans (hb1.mono (by simp; omega))
  clear hb1
  simp only [World.size_alloc] at hT
  go_wp2_with fail
  refine wp_region_inv (by kernel_rfl) (fun d a w' => ∃ v5 v6 v7 v8 v15 v16 v17 v18 v19 v20 v21 v22 v23 v24 v25, a = { tmps := #[.agg #[.int .u64 s.w0, .int .u64 s.w1, .int .u64 s.w2, .int .u64 s.w3], .agg #[.int .u64 t.w0, .int .u64 t.w1, .int .u64 t.w2, .int .u64 t.w3], .pointer (some ⟨w.heap.size, 0, none⟩), .pointer (some ⟨w.heap.size + 1, 0, none⟩), .bool false, v5, v6, v7, v8, undef, undef, undef, undef, .bool true, .bool false, v15, v16, v17, v18, v19, v20, v21, v22, v23, v24, v25, undef, undef, undef, undef, undef, undef, undef, undef, undef, undef, undef, undef, undef, undef, undef, undef, undef, undef, undef, undef, undef, undef, undef, undef, undef, undef, undef, undef, undef, undef, undef, undef, undef, undef, undef, undef, undef, undef, undef, undef, undef, undef, undef, undef, undef, undef, undef, undef, undef, undef, undef, undef, undef, undef, undef], defers := [] } ∧ OpsInv w s t 24 w.heap.size (w.heap.size + 1) d v5 v6 v7 v8 v15 v16 v17 v18 v19 v20 v21 v22 v23 v24 v25 w') (leadBack_spec (by kernel_rfl)) ?start ?step ?fin
  case start => exact ⟨undef, undef, undef, undef, undef, undef, undef, undef, undef, undef, undef, undef, undef, undef, undef, rfl, OpsInv.start ⟨Nat.le_refl _, Nat.lt_succ_self _⟩ hB.drew hA.drew hT.drew⟩
  case step =>
    rintro d i o a w2 ho hd hdep ⟨v5, v6, v7, v8, v15, v16, v17, v18, v19, v20, v21, v22, v23, v24, v25, rfl, h⟩
    clear hA hT hB
    rcases i with _ | i
    · obtain rfl := Option.some.inj ho
      obtain ⟨c0, c1, c2, c3⟩ := h.sa.cells
      have H := Lib.hid h.s0
      clear h hdep hd
      refine wpOp_step rfl (fun K hK => ?_)
      have HK := Lib.hid hK
      clear hK
      go_simp
      exact HK.out _ _ ⟨_, _, _, _, _, _, _, _, _, _, _, _, _, _, _, rfl, H.out⟩
    rcases i with _ | i
    · obtain rfl := Option.some.inj ho
      obtain ⟨c0, c1, c2, c3⟩ := h.sb.cells
      have H := Lib.hid h.s1
      clear h hdep hd
      refine wpOp_step rfl (fun K hK => ?_)
      have HK := Lib.hid hK
      clear hK
      go_simp
      exact HK.out _ _ ⟨_, _, _, _, _, _, _, _, _, _, _, _, _, _, _, rfl, H.out⟩
    rcases i with _ | i
    · obtain rfl := Option.some.inj ho
      simp [Region.binds] at hdep
      obtain rfl := h.x0 (by simp [hdep])
      obtain rfl := h.x1 (by simp [hdep])
      have H := Lib.hid (fun w3 (hb : Below w2.heap.size w2 w3) => h.s2 hb)
      clear h hdep hd
      unfold sv at H ⊢
      refine wpOp_step rfl (fun K hK => ?_)
      have HK := Lib.hid hK
      clear hK
      go_simp
      ((with_reducible refine (setUnion s t hs ht _).mono ?_))
      rintro e w3 ⟨rfl, hb⟩
      exact HK.out _ _ ⟨_, _, _, _, _, _, _, _, _, _, _, _, _, _, _, rfl, H.out _ hb⟩
    rcases i with _ | i
    · obtain rfl := Option.some.inj ho
      obtain ⟨c0, c1, c2, c3⟩ := h.sa.cells
      have H := Lib.hid h.s3
      clear h hdep hd
      refine wpOp_step rfl (fun K hK => ?_)
      have HK := Lib.hid hK
      clear hK
      go_simp
      exact HK.out _ _ ⟨_, _, _, _, _, _, _, _, _, _, _, _, _, _, _, rfl, H.out⟩
    rcases i with _ | i
    · obtain rfl := Option.some.inj ho
      obtain ⟨c0, c1, c2, c3⟩ := h.sb.cells
      have H := Lib.hid h.s4
      clear h hdep hd
      refine wpOp_step rfl (fun K hK => ?_)
      have HK := Lib.hid hK
      clear hK
      go_simp
      exact HK.out _ _ ⟨_, _, _, _, _, _, _, _, _, _, _, _, _, _, _, rfl, H.out⟩
    rcases i with _ | i
    · obtain rfl := Option.some.inj ho
      simp [Region.binds] at hdep
      obtain rfl := h.x3 (by simp [hdep])
      obtain rfl := h.x4 (by simp [hdep])
      have H := Lib.hid (fun w3 (hb : Below w2.heap.size w2 w3) => h.s5 hb)
      clear h hdep hd
      unfold sv at H ⊢
      refine wpOp_step rfl (fun K hK => ?_)
      have HK := Lib.hid hK
      clear hK
      go_simp
      ((with_reducible refine (setInter s t hs ht _).mono ?_))
      rintro e w3 ⟨rfl, hb⟩
      exact HK.out _ _ ⟨_, _, _, _, _, _, _, _, _, _, _, _, _, _, _, rfl, H.out _ hb⟩
    rcases i with _ | i
    · obtain rfl := Option.some.inj ho
      obtain ⟨c0, c1, c2, c3⟩ := h.sa.cells
      have H := Lib.hid h.s6
      clear h hdep hd
      refine wpOp_step rfl (fun K hK => ?_)
      have HK := Lib.hid hK
      clear hK
      go_simp
      exact HK.out _ _ ⟨_, _, _, _, _, _, _, _, _, _, _, _, _, _, _, rfl, H.out⟩
    rcases i with _ | i
    · obtain rfl := Option.some.inj ho
      obtain ⟨c0, c1, c2, c3⟩ := h.sb.cells
      have H := Lib.hid h.s7
      clear h hdep hd
      refine wpOp_step rfl (fun K hK => ?_)
      have HK := Lib.hid hK
      clear hK
      go_simp
      exact HK.out _ _ ⟨_, _, _, _, _, _, _, _, _, _, _, _, _, _, _, rfl, H.out⟩
    rcases i with _ | i
    · obtain rfl := Option.some.inj ho
      simp [Region.binds] at hdep
      obtain rfl := h.x6 (by simp [hdep])
      obtain rfl := h.x7 (by simp [hdep])
      have H := Lib.hid (fun w3 (hb : Below w2.heap.size w2 w3) => h.s8 hb)
      clear h hdep hd
      unfold sv at H ⊢
      refine wpOp_step rfl (fun K hK => ?_)
      have HK := Lib.hid hK
      clear hK
      go_simp
      ((with_reducible refine (setMinus s t hs ht _).mono ?_))
      rintro e w3 ⟨rfl, hb⟩
      exact HK.out _ _ ⟨_, _, _, _, _, _, _, _, _, _, _, _, _, _, _, rfl, H.out _ hb⟩
    rcases i with _ | i
    · obtain rfl := Option.some.inj ho
      obtain ⟨c0, c1, c2, c3⟩ := h.sa.cells
      have H := Lib.hid h.s9
      clear h hdep hd
      refine wpOp_step rfl (fun K hK => ?_)
      have HK := Lib.hid hK
      clear hK
      go_simp
      exact HK.out _ _ ⟨_, _, _, _, _, _, _, _, _, _, _, _, _, _, _, rfl, H.out⟩
    rcases i with _ | i
    · obtain rfl := Option.some.inj ho
      simp [Region.binds] at hdep
      obtain rfl := h.x9 (by simp [hdep])
      have H := Lib.hid (fun w3 (hb : Below w2.heap.size w2 w3) => h.s10 hb)
      clear h hdep hd
      unfold sv at H ⊢
      refine wpOp_step rfl (fun K hK => ?_)
      have HK := Lib.hid hK
      clear hK
      go_simp
      ((with_reducible refine (setNot s hs _).mono ?_))
      rintro e w3 ⟨rfl, hb⟩
      exact HK.out _ _ ⟨_, _, _, _, _, _, _, _, _, _, _, _, _, _, _, rfl, H.out _ hb⟩
    rcases i with _ | i
    · obtain rfl := Option.some.inj ho
      have H := Lib.hid (h.s11 hd)
      clear h hdep hd
      refine wpOp_step rfl (fun K hK => ?_)
      have HK := Lib.hid hK
      clear hK
      go_simp
      exact HK.out _ _ ⟨_, _, _, _, _, _, _, _, _, _, _, _, _, _, _, rfl, H.out⟩
    rcases i with _ | i
    · obtain rfl := Option.some.inj ho
      have H := Lib.hid (h.s12 hd)
      clear h hdep hd
      refine wpOp_step rfl (fun K hK => ?_)
      have HK := Lib.hid hK
      clear hK
      go_simp
      exact HK.out _ _ ⟨_, _, _, _, _, _, _, _, _, _, _, _, _, _, _, rfl, H.out⟩
    rcases i with _ | i
    · obtain rfl := Option.some.inj ho
      have H := Lib.hid (h.s13 hd)
      clear h hdep hd
      refine wpOp_step rfl (fun K hK => ?_)
      have HK := Lib.hid hK
      clear hK
      go_simp
      exact HK.out _ _ ⟨_, _, _, _, _, _, _, _, _, _, _, _, _, _, _, rfl, H.out⟩
    rcases i with _ | i
    · obtain rfl := Option.some.inj ho
      have H := Lib.hid (h.s14 hd)
      clear h hdep hd
      refine wpOp_step rfl (fun K hK => ?_)
      have HK := Lib.hid hK
      clear hK
      go_simp
      exact HK.out _ _ ⟨_, _, _, _, _, _, _, _, _, _, _, _, _, _, _, rfl, H.out⟩
    rcases i with _ | i
    · obtain rfl := Option.some.inj ho
      simp [Region.binds] at hdep
      obtain rfl := h.x2 (by simp [hdep])
      obtain ⟨g, rfl, hg, hsg⟩ := h.c11 (by simp [hdep])
      rw [hd] at hsg
      obtain ⟨c0, c1, c2, c3⟩ := hsg.cells
      obtain ⟨f0, f1, f2, f3⟩ := hsg.frees
      have H := Lib.hid (h.s15 (by simp [hdep]) hg)
      clear h hdep hd hsg hg
      unfold sv at H ⊢
      refine wpOp_step rfl (fun K hK => ?_)
      have HK := Lib.hid hK
      clear hK
      go_simp
      exact HK.out _ _ ⟨_, _, _, _, _, _, _, _, _, _, _, _, _, _, _, rfl, H.out⟩
    rcases i with _ | i
    · obtain rfl := Option.some.inj ho
      simp [Region.binds] at hdep
      obtain rfl := h.x5 (by simp [hdep])
      obtain ⟨g, rfl, hg, hsg⟩ := h.c12 (by simp [hdep])
      rw [hd] at hsg
      obtain ⟨c0, c1, c2, c3⟩ := hsg.cells
      obtain ⟨f0, f1, f2, f3⟩ := hsg.frees
      have H := Lib.hid (h.s16 (by simp [hdep]) hg)
      clear h hdep hd hsg hg
      unfold sv at H ⊢
      refine wpOp_step rfl (fun K hK => ?_)
      have HK := Lib.hid hK
      clear hK
      go_simp
      exact HK.out _ _ ⟨_, _, _, _, _, _, _, _, _, _, _, _, _, _, _, rfl, H.out⟩
    rcases i with _ | i
    · obtain rfl := Option.some.inj ho
      simp [Region.binds] at hdep
      obtain rfl := h.x8 (by simp [hdep])
      obtain ⟨g, rfl, hg, hsg⟩ := h.c13 (by simp [hdep])
      rw [hd] at hsg
      obtain ⟨c0, c1, c2, c3⟩ := hsg.cells
      obtain ⟨f0, f1, f2, f3⟩ := hsg.frees
      have H := Lib.hid (h.s17 (by simp [hdep]) hg)
      clear h hdep hd hsg hg
      unfold sv at H ⊢
      refine wpOp_step rfl (fun K hK => ?_)
      have HK := Lib.hid hK
      clear hK
      go_simp
      exact HK.out _ _ ⟨_, _, _, _, _, _, _, _, _, _, _, _, _, _, _, rfl, H.out⟩
    rcases i with _ | i
    · obtain rfl := Option.some.inj ho
      simp [Region.binds] at hdep
      obtain rfl := h.x10 (by simp [hdep])
      obtain ⟨g, rfl, hg, hsg⟩ := h.c14 (by simp [hdep])
      rw [hd] at hsg
      obtain ⟨c0, c1, c2, c3⟩ := hsg.cells
      obtain ⟨f0, f1, f2, f3⟩ := hsg.frees
      have H := Lib.hid (h.s18 (by simp [hdep]) hg)
      clear h hdep hd hsg hg
      unfold sv at H ⊢
      refine wpOp_step rfl (fun K hK => ?_)
      have HK := Lib.hid hK
      clear hK
      go_simp
      exact HK.out _ _ ⟨_, _, _, _, _, _, _, _, _, _, _, _, _, _, _, rfl, H.out⟩
    · simp at ho
  case fin =>
    rintro d a w2 hall ⟨v5, v6, v7, v8, v15, v16, v17, v18, v19, v20, v21, v22, v23, v24, v25, rfl, h⟩
    obtain rfl := h.x0 (hall 0 (by decide))
    obtain rfl := h.x1 (hall 1 (by decide))
    obtain rfl := h.x2 (hall 2 (by decide))
    obtain rfl := h.x3 (hall 3 (by decide))
    obtain rfl := h.x4 (hall 4 (by decide))
    obtain rfl := h.x5 (hall 5 (by decide))
    obtain rfl := h.x6 (hall 6 (by decide))
    obtain rfl := h.x7 (hall 7 (by decide))
    obtain rfl := h.x8 (hall 8 (by decide))
    obtain rfl := h.x9 (hall 9 (by decide))
    obtain rfl := h.x10 (hall 10 (by decide))
    obtain ⟨g5, rfl, hg5, hS5⟩ := h.c11 (hall 11 (by decide))
    rw [hall 15 (by decide)] at hS5
    obtain ⟨g6, rfl, hg6, hS6⟩ := h.c12 (hall 12 (by decide))
    rw [hall 16 (by decide)] at hS6
    obtain ⟨g7, rfl, hg7, hS7⟩ := h.c13 (hall 13 (by decide))
    rw [hall 17 (by decide)] at hS7
    obtain ⟨g8, rfl, hg8, hS8⟩ := h.c14 (hall 14 (by decide))
    rw [hall 18 (by decide)] at hS8
    have hA2 := h.sa
    have hT2 := h.sb
    have hB2 := h.below
    clear h hall hA hT hB
    unfold sv
    simp only [cond_true] at hS5 hS6 hS7 hS8
    go_wp2_with fail
    go_loopw [26] (fun i wr => ∃ k : Nat, k ≤ 256 ∧ i = .int .i64 k ∧ SetAt wr w.heap.size 24 s ∧ SetAt wr (w.heap.size + 1) 24 t ∧ SetAt wr g5 24 (s.or t) ∧ SetAt wr g6 24 (s.and t) ∧ SetAt wr g7 24 (s.sub t) ∧ SetAt wr g8 24 s.not ∧ Below w.heap.size w wr) (fun i _ => 256 - (intOf i).toNat)
    case atStart => exact ⟨0, by omega, rfl, hA2, hT2, hS5, hS6, hS7, hS8, hB2⟩
    case round =>
      clear hA2 hT2 hS5 hS6 hS7 hS8 hB2
      obtain ⟨k, hk, rfl, hA, hT, hU, hI, hM, hN, hB⟩ := hrel
      by_cases hlt : k < 256
      · have hu := has_or s t k
        have hi := has_and s t k
        have hm := has_sub s t ht k
        have hn := has_not s hs k
        have hw8 : IntKind.u8.wrap (k : Int) = (k : Int) := by rw [IntKind.wrap_u8']; omega
        have hc : (0 : Int) ≤ (k : Int) := by omega
        rcases h1 : s.has k with _ | _ <;> rcases h2 : t.has k with _ | _ <;> rw [h1] at hu hi hm hn <;> rw [h2] at hu hi hm <;> simp only [Bool.or_false, Bool.or_true, Bool.and_false, Bool.and_true, Bool.not_false, Bool.not_true] at hu hi hm hn <;> have H1 := Lib.hid h1 <;> have H2 := Lib.hid h2 <;> have HU := Lib.hid hu <;> have HI := Lib.hid hi <;> have HM := Lib.hid hm <;> have HN := Lib.hid hn <;> clear hu hi hm hn h1 h2
        · go_wp2_with fail
          refine wp_region_noPanic ?_
          refine wp_region_held_drew (S := (fun w' => w'.cell? ⟨w.heap.size, 0, none⟩ = some (.int .u64 s.w0) ∧ w'.cell? ⟨w.heap.size, 1, none⟩ = some (.int .u64 s.w1) ∧ w'.cell? ⟨w.heap.size, 2, none⟩ = some (.int .u64 s.w2) ∧ w'.cell? ⟨w.heap.size, 3, none⟩ = some (.int .u64 s.w3) ∧ w'.cell? ⟨w.heap.size + 1, 0, none⟩ = some (.int .u64 t.w0) ∧ w'.cell? ⟨w.heap.size + 1, 1, none⟩ = some (.int .u64 t.w1) ∧ w'.cell? ⟨w.heap.size + 1, 2, none⟩ = some (.int .u64 t.w2) ∧ w'.cell? ⟨w.heap.size + 1, 3, none⟩ = some (.int .u64 t.w3))) (by kernel_rfl) (by exact sets2 hA hT) (fun hHeld => ?_)
          refine wpAnyH_take (i := 0) (oi := ⟨some 29, _, _, _, _, _⟩) (v := ?_) rfl (by kernel_rfl) (by kernel_rfl) (by kernel_rfl) (fun _ _ _ h => h) (Or.inl ⟨by rfl, ?_⟩) (by exact hHeld) ?_
          rotate_left
          · (intro w hSw; (try dsimp only at hSw); go_simp; try (with_reducible rfl))
          simp only [Act.put, List.setIfInBounds_toArray, List.set_cons_zero, List.set_cons_succ]
          refine wpAnyH_take (i := 1) (oi := ⟨some 30, _, _, _, _, _⟩) (v := ?_) rfl (by kernel_rfl) (by kernel_rfl) (by kernel_rfl) (fun _ _ _ h => h) (Or.inl ⟨by rfl, ?_⟩) (by exact hHeld) ?_
          rotate_left
          · (intro w hSw; (try dsimp only at hSw); go_simp; try (with_reducible rfl))
          simp only [Act.put, List.setIfInBounds_toArray, List.set_cons_zero, List.set_cons_succ]
          refine wpAnyH_take (i := 3) (oi := ⟨some 32, _, _, _, _, _⟩) (v := ?_) rfl (by kernel_rfl) (by kernel_rfl) (by kernel_rfl) (fun _ _ _ h => h) (Or.inl ⟨by rfl, ?_⟩) (by exact hHeld) ?_
          rotate_left
          · (intro w hSw; (try dsimp only at hSw); go_simp; try (with_reducible rfl))
          simp only [Act.put, List.setIfInBounds_toArray, List.set_cons_zero, List.set_cons_succ]
          refine wpAnyH_take (i := 4) (oi := ⟨some 33, _, _, _, _, _⟩) (v := ?_) rfl (by kernel_rfl) (by kernel_rfl) (by kernel_rfl) (fun _ _ _ h => h) (Or.inl ⟨by rfl, ?_⟩) (by exact hHeld) ?_
          rotate_left
          · (intro w hSw; (try dsimp only at hSw); go_simp; try (with_reducible rfl))
          simp only [Act.put, List.setIfInBounds_toArray, List.set_cons_zero, List.set_cons_succ]
          refine wpAnyH_ready (rs := [2]) (by kernel_rfl) (by simp) ?_
          refine AllReadyH.cons (o := ⟨some 31, _, _, _, _, _⟩) rfl (fun K hK => ?_) AllReadyH.nil
          go_simp
          ((with_reducible refine (refHasV s hs k hlt false H1.out _).mono ?_))
          rintro e w3 ⟨rfl, hb3⟩
          have hA := hA.step hb3 rfl
          have hT := hT.step hb3 rfl
          have hU := hU.step hb3 rfl
          have hI := hI.step hb3 rfl
          have hM := hM.step hb3 rfl
          have hN := hN.step hb3 rfl
          have hB := below_step hB hb3 rfl rfl rfl rfl
          clear hb3
          dsimp only
          refine hK.out _ _ ?_ (fun hHeld => ?_)
          · exact sets2 hA hT
          clear hK K
          try simp only [Act.put, List.setIfInBounds_toArray, List.set_cons_zero, List.set_cons_succ]
          refine wpAnyH_ready (rs := [5]) (by kernel_rfl) (by simp) ?_
          refine AllReadyH.cons (o := ⟨some 34, _, _, _, _, _⟩) rfl (fun K hK => ?_) AllReadyH.nil
          go_simp
          ((with_reducible refine (refHasV t ht k hlt false H2.out _).mono ?_))
          rintro e w3 ⟨rfl, hb3⟩
          have hA := hA.step hb3 rfl
          have hT := hT.step hb3 rfl
          have hU := hU.step hb3 rfl
          have hI := hI.step hb3 rfl
          have hM := hM.step hb3 rfl
          have hN := hN.step hb3 rfl
          have hB := below_step hB hb3 rfl rfl rfl rfl
          clear hb3
          dsimp only
          refine hK.out _ _ ?_ (fun hHeld => ?_)
          · exact sets2 hA hT
          clear hK K
          try simp only [Act.put, List.setIfInBounds_toArray, List.set_cons_zero, List.set_cons_succ]
          refine wpAnyH_take (i := 6) (oi := ⟨some 10, _, _, _, _, _⟩) (v := ?_) rfl (by kernel_rfl) (by kernel_rfl) (by kernel_rfl) (fun _ _ _ h => h) (Or.inl ⟨by rfl, ?_⟩) (by exact hHeld) ?_
          rotate_left
          · (intro w hSw; (try dsimp only at hSw); go_simp; try (with_reducible rfl))
          simp only [Act.put, List.setIfInBounds_toArray, List.set_cons_zero, List.set_cons_succ]
          refine wpAnyH_take (i := 7) (oi := ⟨some 11, _, _, _, _, _⟩) (v := ?_) rfl (by kernel_rfl) (by kernel_rfl) (by kernel_rfl) (fun _ _ _ h => h) (Or.inl ⟨by rfl, ?_⟩) (by exact hHeld) ?_
          rotate_left
          · (intro w hSw; (try dsimp only at hSw); go_simp; try (with_reducible rfl))
          simp only [Act.put, List.setIfInBounds_toArray, List.set_cons_zero, List.set_cons_succ]
          refine wpAnyH_done (by kernel_rfl) ?_ _
          refine NoPanic.normal ?_
          obtain ⟨c0, c1, c2, c3⟩ := hA.cells
          go_wp2_with fail
          ((with_reducible refine (setHasV s hs k hlt false H1.out _).mono ?_))
          rintro e w3 ⟨rfl, hb3⟩
          have hA := hA.step hb3 rfl
          have hT := hT.step hb3 rfl
          have hU := hU.step hb3 rfl
          have hI := hI.step hb3 rfl
          have hM := hM.step hb3 rfl
          have hN := hN.step hb3 rfl
          have hB := below_step hB hb3 rfl rfl rfl rfl
          clear hb3
          clear c0 c1 c2 c3
          obtain ⟨c0, c1, c2, c3⟩ := hU.cells
          go_wp2_with fail
          ((with_reducible refine (setHasV (s.or t) (St.or_ok hs ht) k hlt false HU.out _).mono ?_))
          rintro e w3 ⟨rfl, hb3⟩
          have hA := hA.step hb3 rfl
          have hT := hT.step hb3 rfl
          have hU := hU.step hb3 rfl
          have hI := hI.step hb3 rfl
          have hM := hM.step hb3 rfl
          have hN := hN.step hb3 rfl
          have hB := below_step hB hb3 rfl rfl rfl rfl
          clear hb3
          clear c0 c1 c2 c3
          obtain ⟨c0, c1, c2, c3⟩ := hI.cells
          go_wp2_with fail
          ((with_reducible refine (setHasV (s.and t) (St.and_ok hs) k hlt false HI.out _).mono ?_))
          rintro e w3 ⟨rfl, hb3⟩
          have hA := hA.step hb3 rfl
          have hT := hT.step hb3 rfl
          have hU := hU.step hb3 rfl
          have hI := hI.step hb3 rfl
          have hM := hM.step hb3 rfl
          have hN := hN.step hb3 rfl
          have hB := below_step hB hb3 rfl rfl rfl rfl
          clear hb3
          clear c0 c1 c2 c3
          obtain ⟨c0, c1, c2, c3⟩ := hM.cells
          go_wp2_with fail
          ((with_reducible refine (setHasV (s.sub t) (St.sub_ok hs) k hlt false HM.out _).mono ?_))
          rintro e w3 ⟨rfl, hb3⟩
          have hA := hA.step hb3 rfl
          have hT := hT.step hb3 rfl
          have hU := hU.step hb3 rfl
          have hI := hI.step hb3 rfl
          have hM := hM.step hb3 rfl
          have hN := hN.step hb3 rfl
          have hB := below_step hB hb3 rfl rfl rfl rfl
          clear hb3
          clear c0 c1 c2 c3
          obtain ⟨c0, c1, c2, c3⟩ := hN.cells
          go_wp2_with fail
          ((with_reducible refine (setHasV s.not St.not_ok k hlt true HN.out _).mono ?_))
          rintro e w3 ⟨rfl, hb3⟩
          have hA := hA.step hb3 rfl
          have hT := hT.step hb3 rfl
          have hU := hU.step hb3 rfl
          have hI := hI.step hb3 rfl
          have hM := hM.step hb3 rfl
          have hN := hN.step hb3 rfl
          have hB := below_step hB hb3 rfl rfl rfl rfl
          clear hb3
          clear c0 c1 c2 c3
          go_wp2_with fail
          exact ⟨⟨k + 1, by omega, by go_num, hA, hT, hU, hI, hM, hN, hB⟩, by simp [intOf]; omega⟩
        · go_wp2_with fail
          refine wp_region_noPanic ?_
          refine wp_region_held_drew (S := (fun w' => w'.cell? ⟨w.heap.size, 0, none⟩ = some (.int .u64 s.w0) ∧ w'.cell? ⟨w.heap.size, 1, none⟩ = some (.int .u64 s.w1) ∧ w'.cell? ⟨w.heap.size, 2, none⟩ = some (.int .u64 s.w2) ∧ w'.cell? ⟨w.heap.size, 3, none⟩ = some (.int .u64 s.w3) ∧ w'.cell? ⟨w.heap.size + 1, 0, none⟩ = some (.int .u64 t.w0) ∧ w'.cell? ⟨w.heap.size + 1, 1, none⟩ = some (.int .u64 t.w1) ∧ w'.cell? ⟨w.heap.size + 1, 2, none⟩ = some (.int .u64 t.w2) ∧ w'.cell? ⟨w.heap.size + 1, 3, none⟩ = some (.int .u64 t.w3))) (by kernel_rfl) (by exact sets2 hA hT) (fun hHeld => ?_)
          refine wpAnyH_take (i := 0) (oi := ⟨some 29, _, _, _, _, _⟩) (v := ?_) rfl (by kernel_rfl) (by kernel_rfl) (by kernel_rfl) (fun _ _ _ h => h) (Or.inl ⟨by rfl, ?_⟩) (by exact hHeld) ?_
          rotate_left
          · (intro w hSw; (try dsimp only at hSw); go_simp; try (with_reducible rfl))
          simp only [Act.put, List.setIfInBounds_toArray, List.set_cons_zero, List.set_cons_succ]
          refine wpAnyH_take (i := 1) (oi := ⟨some 30, _, _, _, _, _⟩) (v := ?_) rfl (by kernel_rfl) (by kernel_rfl) (by kernel_rfl) (fun _ _ _ h => h) (Or.inl ⟨by rfl, ?_⟩) (by exact hHeld) ?_
          rotate_left
          · (intro w hSw; (try dsimp only at hSw); go_simp; try (with_reducible rfl))
          simp only [Act.put, List.setIfInBounds_toArray, List.set_cons_zero, List.set_cons_succ]
          refine wpAnyH_take (i := 3) (oi := ⟨some 32, _, _, _, _, _⟩) (v := ?_) rfl (by kernel_rfl) (by kernel_rfl) (by kernel_rfl) (fun _ _ _ h => h) (Or.inl ⟨by rfl, ?_⟩) (by exact hHeld) ?_
          rotate_left
          · (intro w hSw; (try dsimp only at hSw); go_simp; try (with_reducible rfl))
          simp only [Act.put, List.setIfInBounds_toArray, List.set_cons_zero, List.set_cons_succ]
          refine wpAnyH_take (i := 4) (oi := ⟨some 33, _, _, _, _, _⟩) (v := ?_) rfl (by kernel_rfl) (by kernel_rfl) (by kernel_rfl) (fun _ _ _ h => h) (Or.inl ⟨by rfl, ?_⟩) (by exact hHeld) ?_
          rotate_left
          · (intro w hSw; (try dsimp only at hSw); go_simp; try (with_reducible rfl))
          simp only [Act.put, List.setIfInBounds_toArray, List.set_cons_zero, List.set_cons_succ]
          refine wpAnyH_ready (rs := [2]) (by kernel_rfl) (by simp) ?_
          refine AllReadyH.cons (o := ⟨some 31, _, _, _, _, _⟩) rfl (fun K hK => ?_) AllReadyH.nil
          go_simp
          ((with_reducible refine (refHasV s hs k hlt false H1.out _).mono ?_))
          rintro e w3 ⟨rfl, hb3⟩
          have hA := hA.step hb3 rfl
          have hT := hT.step hb3 rfl
          have hU := hU.step hb3 rfl
          have hI := hI.step hb3 rfl
          have hM := hM.step hb3 rfl
          have hN := hN.step hb3 rfl
          have hB := below_step hB hb3 rfl rfl rfl rfl
          clear hb3
          dsimp only
          refine hK.out _ _ ?_ (fun hHeld => ?_)
          · exact sets2 hA hT
          clear hK K
          try simp only [Act.put, List.setIfInBounds_toArray, List.set_cons_zero, List.set_cons_succ]
          refine wpAnyH_ready (rs := [5]) (by kernel_rfl) (by simp) ?_
          refine AllReadyH.cons (o := ⟨some 34, _, _, _, _, _⟩) rfl (fun K hK => ?_) AllReadyH.nil
          go_simp
          ((with_reducible refine (refHasV t ht k hlt true H2.out _).mono ?_))
          rintro e w3 ⟨rfl, hb3⟩
          have hA := hA.step hb3 rfl
          have hT := hT.step hb3 rfl
          have hU := hU.step hb3 rfl
          have hI := hI.step hb3 rfl
          have hM := hM.step hb3 rfl
          have hN := hN.step hb3 rfl
          have hB := below_step hB hb3 rfl rfl rfl rfl
          clear hb3
          dsimp only
          refine hK.out _ _ ?_ (fun hHeld => ?_)
          · exact sets2 hA hT
          clear hK K
          try simp only [Act.put, List.setIfInBounds_toArray, List.set_cons_zero, List.set_cons_succ]
          refine wpAnyH_take (i := 6) (oi := ⟨some 10, _, _, _, _, _⟩) (v := ?_) rfl (by kernel_rfl) (by kernel_rfl) (by kernel_rfl) (fun _ _ _ h => h) (Or.inl ⟨by rfl, ?_⟩) (by exact hHeld) ?_
          rotate_left
          · (intro w hSw; (try dsimp only at hSw); go_simp; try (with_reducible rfl))
          simp only [Act.put, List.setIfInBounds_toArray, List.set_cons_zero, List.set_cons_succ]
          refine wpAnyH_take (i := 7) (oi := ⟨some 11, _, _, _, _, _⟩) (v := ?_) rfl (by kernel_rfl) (by kernel_rfl) (by kernel_rfl) (fun _ _ _ h => h) (Or.inl ⟨by rfl, ?_⟩) (by exact hHeld) ?_
          rotate_left
          · (intro w hSw; (try dsimp only at hSw); go_simp; try (with_reducible rfl))
          simp only [Act.put, List.setIfInBounds_toArray, List.set_cons_zero, List.set_cons_succ]
          refine wpAnyH_done (by kernel_rfl) ?_ _
          refine NoPanic.normal ?_
          obtain ⟨c0, c1, c2, c3⟩ := hA.cells
          go_wp2_with fail
          ((with_reducible refine (setHasV s hs k hlt false H1.out _).mono ?_))
          rintro e w3 ⟨rfl, hb3⟩
          have hA := hA.step hb3 rfl
          have hT := hT.step hb3 rfl
          have hU := hU.step hb3 rfl
          have hI := hI.step hb3 rfl
          have hM := hM.step hb3 rfl
          have hN := hN.step hb3 rfl
          have hB := below_step hB hb3 rfl rfl rfl rfl
          clear hb3
          clear c0 c1 c2 c3
          obtain ⟨c0, c1, c2, c3⟩ := hU.cells
          go_wp2_with fail
          ((with_reducible refine (setHasV (s.or t) (St.or_ok hs ht) k hlt true HU.out _).mono ?_))
          rintro e w3 ⟨rfl, hb3⟩
          have hA := hA.step hb3 rfl
          have hT := hT.step hb3 rfl
          have hU := hU.step hb3 rfl
          have hI := hI.step hb3 rfl
          have hM := hM.step hb3 rfl
          have hN := hN.step hb3 rfl
          have hB := below_step hB hb3 rfl rfl rfl rfl
          clear hb3
          clear c0 c1 c2 c3
          obtain ⟨c0, c1, c2, c3⟩ := hI.cells
          go_wp2_with fail
          ((with_reducible refine (setHasV (s.and t) (St.and_ok hs) k hlt false HI.out _).mono ?_))
          rintro e w3 ⟨rfl, hb3⟩
          have hA := hA.step hb3 rfl
          have hT := hT.step hb3 rfl
          have hU := hU.step hb3 rfl
          have hI := hI.step hb3 rfl
          have hM := hM.step hb3 rfl
          have hN := hN.step hb3 rfl
          have hB := below_step hB hb3 rfl rfl rfl rfl
          clear hb3
          clear c0 c1 c2 c3
          obtain ⟨c0, c1, c2, c3⟩ := hM.cells
          go_wp2_with fail
          ((with_reducible refine (setHasV (s.sub t) (St.sub_ok hs) k hlt false HM.out _).mono ?_))
          rintro e w3 ⟨rfl, hb3⟩
          have hA := hA.step hb3 rfl
          have hT := hT.step hb3 rfl
          have hU := hU.step hb3 rfl
          have hI := hI.step hb3 rfl
          have hM := hM.step hb3 rfl
          have hN := hN.step hb3 rfl
          have hB := below_step hB hb3 rfl rfl rfl rfl
          clear hb3
          clear c0 c1 c2 c3
          obtain ⟨c0, c1, c2, c3⟩ := hN.cells
          go_wp2_with fail
          ((with_reducible refine (setHasV s.not St.not_ok k hlt true HN.out _).mono ?_))
          rintro e w3 ⟨rfl, hb3⟩
          have hA := hA.step hb3 rfl
          have hT := hT.step hb3 rfl
          have hU := hU.step hb3 rfl
          have hI := hI.step hb3 rfl
          have hM := hM.step hb3 rfl
          have hN := hN.step hb3 rfl
          have hB := below_step hB hb3 rfl rfl rfl rfl
          clear hb3
          clear c0 c1 c2 c3
          go_wp2_with fail
          exact ⟨⟨k + 1, by omega, by go_num, hA, hT, hU, hI, hM, hN, hB⟩, by simp [intOf]; omega⟩
        · go_wp2_with fail
          refine wp_region_noPanic ?_
          refine wp_region_held_drew (S := (fun w' => w'.cell? ⟨w.heap.size, 0, none⟩ = some (.int .u64 s.w0) ∧ w'.cell? ⟨w.heap.size, 1, none⟩ = some (.int .u64 s.w1) ∧ w'.cell? ⟨w.heap.size, 2, none⟩ = some (.int .u64 s.w2) ∧ w'.cell? ⟨w.heap.size, 3, none⟩ = some (.int .u64 s.w3) ∧ w'.cell? ⟨w.heap.size + 1, 0, none⟩ = some (.int .u64 t.w0) ∧ w'.cell? ⟨w.heap.size + 1, 1, none⟩ = some (.int .u64 t.w1) ∧ w'.cell? ⟨w.heap.size + 1, 2, none⟩ = some (.int .u64 t.w2) ∧ w'.cell? ⟨w.heap.size + 1, 3, none⟩ = some (.int .u64 t.w3))) (by kernel_rfl) (by exact sets2 hA hT) (fun hHeld => ?_)
          refine wpAnyH_take (i := 0) (oi := ⟨some 29, _, _, _, _, _⟩) (v := ?_) rfl (by kernel_rfl) (by kernel_rfl) (by kernel_rfl) (fun _ _ _ h => h) (Or.inl ⟨by rfl, ?_⟩) (by exact hHeld) ?_
          rotate_left
          · (intro w hSw; (try dsimp only at hSw); go_simp; try (with_reducible rfl))
          simp only [Act.put, List.setIfInBounds_toArray, List.set_cons_zero, List.set_cons_succ]
          refine wpAnyH_take (i := 1) (oi := ⟨some 30, _, _, _, _, _⟩) (v := ?_) rfl (by kernel_rfl) (by kernel_rfl) (by kernel_rfl) (fun _ _ _ h => h) (Or.inl ⟨by rfl, ?_⟩) (by exact hHeld) ?_
          rotate_left
          · (intro w hSw; (try dsimp only at hSw); go_simp; try (with_reducible rfl))
          simp only [Act.put, List.setIfInBounds_toArray, List.set_cons_zero, List.set_cons_succ]
          refine wpAnyH_take (i := 3) (oi := ⟨some 32, _, _, _, _, _⟩) (v := ?_) rfl (by kernel_rfl) (by kernel_rfl) (by kernel_rfl) (fun _ _ _ h => h) (Or.inl ⟨by rfl, ?_⟩) (by exact hHeld) ?_
          rotate_left
          · (intro w hSw; (try dsimp only at hSw); go_simp; try (with_reducible rfl))
          simp only [Act.put, List.setIfInBounds_toArray, List.set_cons_zero, List.set_cons_succ]
          refine wpAnyH_take (i := 4) (oi := ⟨some 33, _, _, _, _, _⟩) (v := ?_) rfl (by kernel_rfl) (by kernel_rfl) (by kernel_rfl) (fun _ _ _ h => h) (Or.inl ⟨by rfl, ?_⟩) (by exact hHeld) ?_
          rotate_left
          · (intro w hSw; (try dsimp only at hSw); go_simp; try (with_reducible rfl))
          simp only [Act.put, List.setIfInBounds_toArray, List.set_cons_zero, List.set_cons_succ]
          refine wpAnyH_ready (rs := [2]) (by kernel_rfl) (by simp) ?_
          refine AllReadyH.cons (o := ⟨some 31, _, _, _, _, _⟩) rfl (fun K hK => ?_) AllReadyH.nil
          go_simp
          ((with_reducible refine (refHasV s hs k hlt true H1.out _).mono ?_))
          rintro e w3 ⟨rfl, hb3⟩
          have hA := hA.step hb3 rfl
          have hT := hT.step hb3 rfl
          have hU := hU.step hb3 rfl
          have hI := hI.step hb3 rfl
          have hM := hM.step hb3 rfl
          have hN := hN.step hb3 rfl
          have hB := below_step hB hb3 rfl rfl rfl rfl
          clear hb3
          dsimp only
          refine hK.out _ _ ?_ (fun hHeld => ?_)
          · exact sets2 hA hT
          clear hK K
          try simp only [Act.put, List.setIfInBounds_toArray, List.set_cons_zero, List.set_cons_succ]
          refine wpAnyH_ready (rs := [5]) (by kernel_rfl) (by simp) ?_
          refine AllReadyH.cons (o := ⟨some 34, _, _, _, _, _⟩) rfl (fun K hK => ?_) AllReadyH.nil
          go_simp
          ((with_reducible refine (refHasV t ht k hlt false H2.out _).mono ?_))
          rintro e w3 ⟨rfl, hb3⟩
          have hA := hA.step hb3 rfl
          have hT := hT.step hb3 rfl
          have hU := hU.step hb3 rfl
          have hI := hI.step hb3 rfl
          have hM := hM.step hb3 rfl
          have hN := hN.step hb3 rfl
          have hB := below_step hB hb3 rfl rfl rfl rfl
          clear hb3
          dsimp only
          refine hK.out _ _ ?_ (fun hHeld => ?_)
          · exact sets2 hA hT
          clear hK K
          try simp only [Act.put, List.setIfInBounds_toArray, List.set_cons_zero, List.set_cons_succ]
          refine wpAnyH_take (i := 6) (oi := ⟨some 10, _, _, _, _, _⟩) (v := ?_) rfl (by kernel_rfl) (by kernel_rfl) (by kernel_rfl) (fun _ _ _ h => h) (Or.inl ⟨by rfl, ?_⟩) (by exact hHeld) ?_
          rotate_left
          · (intro w hSw; (try dsimp only at hSw); go_simp; try (with_reducible rfl))
          simp only [Act.put, List.setIfInBounds_toArray, List.set_cons_zero, List.set_cons_succ]
          refine wpAnyH_take (i := 7) (oi := ⟨some 11, _, _, _, _, _⟩) (v := ?_) rfl (by kernel_rfl) (by kernel_rfl) (by kernel_rfl) (fun _ _ _ h => h) (Or.inl ⟨by rfl, ?_⟩) (by exact hHeld) ?_
          rotate_left
          · (intro w hSw; (try dsimp only at hSw); go_simp; try (with_reducible rfl))
          simp only [Act.put, List.setIfInBounds_toArray, List.set_cons_zero, List.set_cons_succ]
          refine wpAnyH_done (by kernel_rfl) ?_ _
          refine NoPanic.normal ?_
          obtain ⟨c0, c1, c2, c3⟩ := hA.cells
          go_wp2_with fail
          ((with_reducible refine (setHasV s hs k hlt true H1.out _).mono ?_))
          rintro e w3 ⟨rfl, hb3⟩
          have hA := hA.step hb3 rfl
          have hT := hT.step hb3 rfl
          have hU := hU.step hb3 rfl
          have hI := hI.step hb3 rfl
          have hM := hM.step hb3 rfl
          have hN := hN.step hb3 rfl
          have hB := below_step hB hb3 rfl rfl rfl rfl
          clear hb3
          clear c0 c1 c2 c3
          obtain ⟨c0, c1, c2, c3⟩ := hU.cells
          go_wp2_with fail
          ((with_reducible refine (setHasV (s.or t) (St.or_ok hs ht) k hlt true HU.out _).mono ?_))
          rintro e w3 ⟨rfl, hb3⟩
          have hA := hA.step hb3 rfl
          have hT := hT.step hb3 rfl
          have hU := hU.step hb3 rfl
          have hI := hI.step hb3 rfl
          have hM := hM.step hb3 rfl
          have hN := hN.step hb3 rfl
          have hB := below_step hB hb3 rfl rfl rfl rfl
          clear hb3
          clear c0 c1 c2 c3
          obtain ⟨c0, c1, c2, c3⟩ := hI.cells
          go_wp2_with fail
          ((with_reducible refine (setHasV (s.and t) (St.and_ok hs) k hlt false HI.out _).mono ?_))
          rintro e w3 ⟨rfl, hb3⟩
          have hA := hA.step hb3 rfl
          have hT := hT.step hb3 rfl
          have hU := hU.step hb3 rfl
          have hI := hI.step hb3 rfl
          have hM := hM.step hb3 rfl
          have hN := hN.step hb3 rfl
          have hB := below_step hB hb3 rfl rfl rfl rfl
          clear hb3
          clear c0 c1 c2 c3
          obtain ⟨c0, c1, c2, c3⟩ := hM.cells
          go_wp2_with fail
          ((with_reducible refine (setHasV (s.sub t) (St.sub_ok hs) k hlt true HM.out _).mono ?_))
          rintro e w3 ⟨rfl, hb3⟩
          have hA := hA.step hb3 rfl
          have hT := hT.step hb3 rfl
          have hU := hU.step hb3 rfl
          have hI := hI.step hb3 rfl
          have hM := hM.step hb3 rfl
          have hN := hN.step hb3 rfl
          have hB := below_step hB hb3 rfl rfl rfl rfl
          clear hb3
          clear c0 c1 c2 c3
          obtain ⟨c0, c1, c2, c3⟩ := hN.cells
          go_wp2_with fail
          ((with_reducible refine (setHasV s.not St.not_ok k hlt false HN.out _).mono ?_))
          rintro e w3 ⟨rfl, hb3⟩
          have hA := hA.step hb3 rfl
          have hT := hT.step hb3 rfl
          have hU := hU.step hb3 rfl
          have hI := hI.step hb3 rfl
          have hM := hM.step hb3 rfl
          have hN := hN.step hb3 rfl
          have hB := below_step hB hb3 rfl rfl rfl rfl
          clear hb3
          clear c0 c1 c2 c3
          go_wp2_with fail
          exact ⟨⟨k + 1, by omega, by go_num, hA, hT, hU, hI, hM, hN, hB⟩, by simp [intOf]; omega⟩
        · go_wp2_with fail
          refine wp_region_noPanic ?_
          refine wp_region_held_drew (S := (fun w' => w'.cell? ⟨w.heap.size, 0, none⟩ = some (.int .u64 s.w0) ∧ w'.cell? ⟨w.heap.size, 1, none⟩ = some (.int .u64 s.w1) ∧ w'.cell? ⟨w.heap.size, 2, none⟩ = some (.int .u64 s.w2) ∧ w'.cell? ⟨w.heap.size, 3, none⟩ = some (.int .u64 s.w3) ∧ w'.cell? ⟨w.heap.size + 1, 0, none⟩ = some (.int .u64 t.w0) ∧ w'.cell? ⟨w.heap.size + 1, 1, none⟩ = some (.int .u64 t.w1) ∧ w'.cell? ⟨w.heap.size + 1, 2, none⟩ = some (.int .u64 t.w2) ∧ w'.cell? ⟨w.heap.size + 1, 3, none⟩ = some (.int .u64 t.w3))) (by kernel_rfl) (by exact sets2 hA hT) (fun hHeld => ?_)
          refine wpAnyH_take (i := 0) (oi := ⟨some 29, _, _, _, _, _⟩) (v := ?_) rfl (by kernel_rfl) (by kernel_rfl) (by kernel_rfl) (fun _ _ _ h => h) (Or.inl ⟨by rfl, ?_⟩) (by exact hHeld) ?_
          rotate_left
          · (intro w hSw; (try dsimp only at hSw); go_simp; try (with_reducible rfl))
          simp only [Act.put, List.setIfInBounds_toArray, List.set_cons_zero, List.set_cons_succ]
          refine wpAnyH_take (i := 1) (oi := ⟨some 30, _, _, _, _, _⟩) (v := ?_) rfl (by kernel_rfl) (by kernel_rfl) (by kernel_rfl) (fun _ _ _ h => h) (Or.inl ⟨by rfl, ?_⟩) (by exact hHeld) ?_
          rotate_left
          · (intro w hSw; (try dsimp only at hSw); go_simp; try (with_reducible rfl))
          simp only [Act.put, List.setIfInBounds_toArray, List.set_cons_zero, List.set_cons_succ]
          refine wpAnyH_take (i := 3) (oi := ⟨some 32, _, _, _, _, _⟩) (v := ?_) rfl (by kernel_rfl) (by kernel_rfl) (by kernel_rfl) (fun _ _ _ h => h) (Or.inl ⟨by rfl, ?_⟩) (by exact hHeld) ?_
          rotate_left
          · (intro w hSw; (try dsimp only at hSw); go_simp; try (with_reducible rfl))
          simp only [Act.put, List.setIfInBounds_toArray, List.set_cons_zero, List.set_cons_succ]
          refine wpAnyH_take (i := 4) (oi := ⟨some 33, _, _, _, _, _⟩) (v := ?_) rfl (by kernel_rfl) (by kernel_rfl) (by kernel_rfl) (fun _ _ _ h => h) (Or.inl ⟨by rfl, ?_⟩) (by exact hHeld) ?_
          rotate_left
          · (intro w hSw; (try dsimp only at hSw); go_simp; try (with_reducible rfl))
          simp only [Act.put, List.setIfInBounds_toArray, List.set_cons_zero, List.set_cons_succ]
          refine wpAnyH_ready (rs := [2]) (by kernel_rfl) (by simp) ?_
          refine AllReadyH.cons (o := ⟨some 31, _, _, _, _, _⟩) rfl (fun K hK => ?_) AllReadyH.nil
          go_simp
          ((with_reducible refine (refHasV s hs k hlt true H1.out _).mono ?_))
          rintro e w3 ⟨rfl, hb3⟩
          have hA := hA.step hb3 rfl
          have hT := hT.step hb3 rfl
          have hU := hU.step hb3 rfl
          have hI := hI.step hb3 rfl
          have hM := hM.step hb3 rfl
          have hN := hN.step hb3 rfl
          have hB := below_step hB hb3 rfl rfl rfl rfl
          clear hb3
          dsimp only
          refine hK.out _ _ ?_ (fun hHeld => ?_)
          · exact sets2 hA hT
          clear hK K
          try simp only [Act.put, List.setIfInBounds_toArray, List.set_cons_zero, List.set_cons_succ]
          refine wpAnyH_ready (rs := [5]) (by kernel_rfl) (by simp) ?_
          refine AllReadyH.cons (o := ⟨some 34, _, _, _, _, _⟩) rfl (fun K hK => ?_) AllReadyH.nil
          go_simp
          ((with_reducible refine (refHasV t ht k hlt true H2.out _).mono ?_))
          rintro e w3 ⟨rfl, hb3⟩
          have hA := hA.step hb3 rfl
          have hT := hT.step hb3 rfl
          have hU := hU.step hb3 rfl
          have hI := hI.step hb3 rfl
          have hM := hM.step hb3 rfl
          have hN := hN.step hb3 rfl
          have hB := below_step hB hb3 rfl rfl rfl rfl
          clear hb3
          dsimp only
          refine hK.out _ _ ?_ (fun hHeld => ?_)
          · exact sets2 hA hT
          clear hK K
          try simp only [Act.put, List.setIfInBounds_toArray, List.set_cons_zero, List.set_cons_succ]
          refine wpAnyH_take (i := 6) (oi := ⟨some 10, _, _, _, _, _⟩) (v := ?_) rfl (by kernel_rfl) (by kernel_rfl) (by kernel_rfl) (fun _ _ _ h => h) (Or.inl ⟨by rfl, ?_⟩) (by exact hHeld) ?_
          rotate_left
          · (intro w hSw; (try dsimp only at hSw); go_simp; try (with_reducible rfl))
          simp only [Act.put, List.setIfInBounds_toArray, List.set_cons_zero, List.set_cons_succ]
          refine wpAnyH_take (i := 7) (oi := ⟨some 11, _, _, _, _, _⟩) (v := ?_) rfl (by kernel_rfl) (by kernel_rfl) (by kernel_rfl) (fun _ _ _ h => h) (Or.inl ⟨by rfl, ?_⟩) (by exact hHeld) ?_
          rotate_left
          · (intro w hSw; (try dsimp only at hSw); go_simp; try (with_reducible rfl))
          simp only [Act.put, List.setIfInBounds_toArray, List.set_cons_zero, List.set_cons_succ]
          refine wpAnyH_done (by kernel_rfl) ?_ _
          refine NoPanic.normal ?_
          obtain ⟨c0, c1, c2, c3⟩ := hA.cells
          go_wp2_with fail
          ((with_reducible refine (setHasV s hs k hlt true H1.out _).mono ?_))
          rintro e w3 ⟨rfl, hb3⟩
          have hA := hA.step hb3 rfl
          have hT := hT.step hb3 rfl
          have hU := hU.step hb3 rfl
          have hI := hI.step hb3 rfl
          have hM := hM.step hb3 rfl
          have hN := hN.step hb3 rfl
          have hB := below_step hB hb3 rfl rfl rfl rfl
          clear hb3
          clear c0 c1 c2 c3
          obtain ⟨c0, c1, c2, c3⟩ := hU.cells
          go_wp2_with fail
          ((with_reducible refine (setHasV (s.or t) (St.or_ok hs ht) k hlt true HU.out _).mono ?_))
          rintro e w3 ⟨rfl, hb3⟩
          have hA := hA.step hb3 rfl
          have hT := hT.step hb3 rfl
          have hU := hU.step hb3 rfl
          have hI := hI.step hb3 rfl
          have hM := hM.step hb3 rfl
          have hN := hN.step hb3 rfl
          have hB := below_step hB hb3 rfl rfl rfl rfl
          clear hb3
          clear c0 c1 c2 c3
          obtain ⟨c0, c1, c2, c3⟩ := hI.cells
          go_wp2_with fail
          ((with_reducible refine (setHasV (s.and t) (St.and_ok hs) k hlt true HI.out _).mono ?_))
          rintro e w3 ⟨rfl, hb3⟩
          have hA := hA.step hb3 rfl
          have hT := hT.step hb3 rfl
          have hU := hU.step hb3 rfl
          have hI := hI.step hb3 rfl
          have hM := hM.step hb3 rfl
          have hN := hN.step hb3 rfl
          have hB := below_step hB hb3 rfl rfl rfl rfl
          clear hb3
          clear c0 c1 c2 c3
          obtain ⟨c0, c1, c2, c3⟩ := hM.cells
          go_wp2_with fail
          ((with_reducible refine (setHasV (s.sub t) (St.sub_ok hs) k hlt false HM.out _).mono ?_))
          rintro e w3 ⟨rfl, hb3⟩
          have hA := hA.step hb3 rfl
          have hT := hT.step hb3 rfl
          have hU := hU.step hb3 rfl
          have hI := hI.step hb3 rfl
          have hM := hM.step hb3 rfl
          have hN := hN.step hb3 rfl
          have hB := below_step hB hb3 rfl rfl rfl rfl
          clear hb3
          clear c0 c1 c2 c3
          obtain ⟨c0, c1, c2, c3⟩ := hN.cells
          go_wp2_with fail
          ((with_reducible refine (setHasV s.not St.not_ok k hlt false HN.out _).mono ?_))
          rintro e w3 ⟨rfl, hb3⟩
          have hA := hA.step hb3 rfl
          have hT := hT.step hb3 rfl
          have hU := hU.step hb3 rfl
          have hI := hI.step hb3 rfl
          have hM := hM.step hb3 rfl
          have hN := hN.step hb3 rfl
          have hB := below_step hB hb3 rfl rfl rfl rfl
          clear hb3
          clear c0 c1 c2 c3
          go_wp2_with fail
          exact ⟨⟨k + 1, by omega, by go_num, hA, hT, hU, hI, hM, hN, hB⟩, by simp [intOf]; omega⟩
      · have hk2 : k = 256 := by omega
        subst hk2
        go_wp2_with fail
        go_ret
        exact ⟨rfl, hB⟩

end Go.Proofs.Ytdcmalfjciekoaa
