/- turnedNode: a node made of the turned ones of what it names. -/
import Derived.Test.YtoicbahkoejhjaaArenaIs
import Derived.Test.YtoicbahkoejhjaaBelowMath
import Derived.Test.YtoicbahkoejhjaaBlank
namespace Go.Proofs.Ytoicbahkoejhjaa
open Go.RowKit Go.Maps
set_option linter.unusedVariables false
set_option linter.unusedSimpArgs false

def intRow (f : Nat → Int) (n : Nat) : Array Value := arr n (fun j => .int .i64 (f j))
theorem intRow_at {w : World} {g n : Nat} {t : TypeId} {f : Nat → Int} (h : At w g t (intRow f n)) {j : Nat} (hj : j < n) : w.cell? ⟨g, j, none⟩ = some (.int .i64 (f j)) := by
  rw [h.cell]; exact arr_get _ _ _ hj
theorem intRow_zero (n : Nat) : intRow (fun _ => 0) n = madeCells #[.int .i64 0] n := by
  unfold intRow arr madeCells
  apply Array.ext_getElem?
  intro i
  by_cases hi : i < n <;> simp [hi, Nat.mod_one]
theorem intRow_set (f : Nat → Int) (n k : Nat) (b : Int) : (intRow f n).setIfInBounds k (.int .i64 b) = intRow (fun j => if j = k then b else f j) n := by
  unfold intRow
  rw [arr_set]
  apply arr_congr
  intro j _
  by_cases e : j = k
  · simp [e]
  · simp [e]
/-- A node made of others instead of those that it names, a Cat the other way round. -/
def turnN (f : Nat → Int) (x : Nd) : Nd :=
  if x.kind = 3 then ⟨x.kind, x.set, f x.b.toNat, f x.a.toNat, x.neg⟩
  else if x.kind = 4 ∨ x.kind = 5 then ⟨x.kind, x.set, f x.a.toNat, f x.b.toNat, x.neg⟩
  else if x.kind = 6 ∨ x.kind = 7 then ⟨x.kind, x.set, f x.a.toNat, x.b, x.neg⟩
  else x
theorem results_row1 {P : Program} {fn : Func} {p : Tmp} {ty : TypeId} (h : fn.results = #[.cell p ty]) (tmps : Array Value) (w : World) (g : Nat) (t : TypeId) (cs : Array Value) (fr : Nat × Nat) (d : TypeDesc)
    (hp : tmps.getD p undef = .pointer (some ⟨g, 0, none⟩)) (hg : w.heap[g]? = some (.cells cs t fr))
    (hu : P.underlying ty = some d) (hd : (match d with | .struct _ | .array _ _ => true | _ => false) = true) (hi : (P.info? ty).map (·.size) = some cs.size) :
    (results fn tmps).run P w = .ok (.agg cs) w := by
  have hp' : tmps[p]?.getD undef = .pointer (some ⟨g, 0, none⟩) := by simpa using hp
  simp [results, h, hp', asAddr, run_loadVar_row w g t ty cs fr d hg hu hd hi]
theorem ne_succ' (m : Nat) : m + 1 ≠ m := by omega

set_option maxRecDepth 100000 in
set_option maxHeartbeats 16000000 in
theorem aTurned (x : Nd) (f : Nat → Int) (n gt c : Nat) (w : World) (hg : At w gt 3 (intRow f n)) (hx : NdOk x n) (hn : n ≤ 100000) :
    Calls Try.prog 26 #[.agg x.cs.toArray, .slice (some ⟨gt, 0, none⟩) n c] w fun e w' => e = .returned (.agg (turnN f x).cs.toArray) ∧ Below w.heap.size w w' := by
  have HA : Hid (At (twoN w x Nd.zero) w.heap.size 34 x.cs.toArray) := Lib.hid (twoN_x w x Nd.zero)
  have HZ : Hid (At (twoN w x Nd.zero) (w.heap.size + 1) 34 Nd.zero.cs.toArray) := Lib.hid (twoN_z w x Nd.zero)
  have HB : Hid (Below w.heap.size w (twoN w x Nd.zero)) := Lib.hid (twoN_next w x Nd.zero)
  have HG : Hid (At (twoN w x Nd.zero) gt 3 (intRow f n)) := Lib.hid (hg.step HB.out rfl)
  have hgn : gt < w.heap.size := hg.lt
  have hone := Nd.one (turnN f x)
  have HX := Lib.hid hx
  have hc := (Nd.cells HA.out).1
  change ((w.alloc (Obj.cells x.cs.toArray 34)).alloc (Obj.cells #[.int .i64 0, .int .u64 0, .int .u64 0, .int .u64 0, .int .u64 0, .int .i64 0, .int .i64 0, .bool false] 34)).cell? ⟨w.heap.size, 0, none⟩ = _ at hc
  clear hx hg
  by_cases hk3 : x.kind = 3
  · have HKd := Lib.hid hk3
    rw [hk3] at hc
    clear hk3
    have hab := HX.out.2.1 (by have := HKd.out; omega)
    obtain ⟨ka, hka⟩ : ∃ q : Nat, x.a = (q : Int) := ⟨x.a.toNat, by omega⟩
    obtain ⟨kb, hkb⟩ : ∃ q : Nat, x.b = (q : Int) := ⟨x.b.toNat, by omega⟩
    have hka0 : (0 : Int) ≤ (ka : Int) := by omega
    have hkb0 : (0 : Int) ≤ (kb : Int) := by omega
    have hka1 : (ka : Int) < (n : Int) := by omega
    have hkb1 : (kb : Int) < (n : Int) := by omega
    have hka2 : ka < n := by omega
    have hkb2 : kb < n := by omega
    have HQa : Hid (x.cs.toArray[5]? = some (.int .i64 ka)) := Lib.hid (by show some (Value.int .i64 x.a) = _; rw [hka])
    have HQb : Hid (x.cs.toArray[6]? = some (.int .i64 kb)) := Lib.hid (by show some (Value.int .i64 x.b) = _; rw [hkb])
    have HQb2 : Hid ((x.cs.toArray.setIfInBounds 5 (.int .i64 (f kb)))[6]? = some (.int .i64 kb)) := Lib.hid (by show some (Value.int .i64 x.b) = _; rw [hkb])
    have HTn : Hid ((turnN f x).cs.toArray = (x.cs.toArray.setIfInBounds 5 (.int .i64 (f kb))).setIfInBounds 6 (.int .i64 (f ka))) := Lib.hid (by
      unfold turnN
      rw [if_pos HKd.out, hka, hkb, Int.toNat_natCast, Int.toNat_natCast]
      rfl)
    clear hab hka hkb
    go_enter Try.func26, Try.ntmps26
    go_wp2_with fail
    try change Code.wp _ _ _ _ (twoN w x Nd.zero)
    have hA := HA.out
    have hZ := HZ.out
    have hB := HB.out
    have hG := HG.out
    obtain ⟨wc, hwc⟩ : ∃ wc, wc = twoN w x Nd.zero := ⟨_, rfl⟩
    rw [← hwc] at hA hZ hB hG ⊢
    clear hwc hc
    refine wp_region_noPanic ?_
    refine wp_region_held_drew (S := (fun w' => w'.cell? ⟨gt, ka, none⟩ = some (.int .i64 (f ka)) ∧ w'.cell? ⟨gt, kb, none⟩ = some (.int .i64 (f kb)))) (by kernel_rfl) (by exact ⟨intRow_at hG hka2, intRow_at hG hkb2⟩) (fun hHeld => ?_)
    have hA := hA.drew
    have hZ := hZ.drew
    have hG := hG.drew
    have hB := below_drewN' hB 1
    change Below _ _ wc.drew at hB
    obtain ⟨wd, hwd⟩ : ∃ wd, wd = wc.drew := ⟨_, rfl⟩
    rw [← hwd] at hA hZ hG hB ⊢
    try rw [← hwd] at hHeld
    clear hwd
    have q5 : wd.cell? ⟨w.heap.size, 5, none⟩ = some (.int .i64 ka) := (At.cell hA 5).trans HQa.out
    have q6 : wd.cell? ⟨w.heap.size, 6, none⟩ = some (.int .i64 kb) := (At.cell hA 6).trans HQb.out
    have f5 := hA.free 5
    have f6 := hA.free 6
    refine wpAnyH_take (i := 0) (oi := ⟨some 9, _, _, _, _, _⟩) (v := ?_) rfl (by kernel_rfl) (by kernel_rfl) (by kernel_rfl) (fun _ _ _ h => h) (Or.inl ⟨by rfl, ?_⟩) (by exact hHeld) ?_
    rotate_left
    · (intro w hSw; (try dsimp only at hSw); go_simp; try (with_reducible rfl))
    simp only [Act.put, List.setIfInBounds_toArray, List.set_cons_zero, List.set_cons_succ]
    refine wpAnyH_take (i := 1) (oi := ⟨some 10, _, _, _, _, _⟩) (v := ?_) rfl (by kernel_rfl) (by kernel_rfl) (by kernel_rfl) (fun _ _ _ h => h) (Or.inl ⟨by rfl, ?_⟩) (by exact hHeld) ?_
    rotate_left
    · (intro w hSw; (try dsimp only at hSw); go_simp; try (with_reducible rfl))
    simp only [Act.put, List.setIfInBounds_toArray, List.set_cons_zero, List.set_cons_succ]
    refine wpAnyH_take (i := 5) (oi := ⟨some 14, _, _, _, _, _⟩) (v := ?_) rfl (by kernel_rfl) (by kernel_rfl) (by kernel_rfl) (fun _ _ _ h => h) (Or.inl ⟨by rfl, ?_⟩) (by exact hHeld) ?_
    rotate_left
    · (intro w hSw; (try dsimp only at hSw); go_simp; try (with_reducible rfl))
    simp only [Act.put, List.setIfInBounds_toArray, List.set_cons_zero, List.set_cons_succ]
    refine wpAnyH_take (i := 6) (oi := ⟨some 15, _, _, _, _, _⟩) (v := ?_) rfl (by kernel_rfl) (by kernel_rfl) (by kernel_rfl) (fun _ _ _ h => h) (Or.inl ⟨by rfl, ?_⟩) (by exact hHeld) ?_
    rotate_left
    · (intro w hSw; (try dsimp only at hSw); go_simp; try (with_reducible rfl))
    simp only [Act.put, List.setIfInBounds_toArray, List.set_cons_zero, List.set_cons_succ]
    refine wpAnyH_ready (rs := [2, 7]) (by kernel_rfl) (by simp) ?_
    refine AllReadyH.cons (o := ⟨some 11, _, _, _, _, _⟩) rfl (fun K hK => ?_) ?_
    · go_simp
      refine hK.out _ _ ?_ (fun hHeld => ?_)
      · exact ⟨intRow_at hG hka2, intRow_at hG hkb2⟩
      clear hK K
      try simp only [Act.put, List.setIfInBounds_toArray, List.set_cons_zero, List.set_cons_succ]
      refine wpAnyH_take (i := 3) (oi := ⟨some 12, _, _, _, _, _⟩) (v := ?_) rfl (by kernel_rfl) (by kernel_rfl) (by kernel_rfl) (fun _ _ _ h => h) (Or.inl ⟨by rfl, ?_⟩) (by exact hHeld) ?_
      rotate_left
      · (intro w hSw; (try dsimp only at hSw); go_simp; try (with_reducible rfl))
      simp only [Act.put, List.setIfInBounds_toArray, List.set_cons_zero, List.set_cons_succ]
      refine wpAnyH_take (i := 4) (oi := ⟨some 13, _, _, _, _, _⟩) (v := ?_) rfl (by kernel_rfl) (by kernel_rfl) (by kernel_rfl) (fun _ _ _ h => h) (Or.inl ⟨by rfl, ?_⟩) (by exact hHeld) ?_
      rotate_left
      · (intro w hSw; (try dsimp only at hSw); obtain ⟨s1, s2⟩ := hSw; go_simp; try (with_reducible rfl))
      simp only [Act.put, List.setIfInBounds_toArray, List.set_cons_zero, List.set_cons_succ]
      refine wpAnyH_ready (rs := [7]) (by kernel_rfl) (by simp) ?_
      refine AllReadyH.cons (o := ⟨some 16, _, _, _, _, _⟩) rfl (fun K hK => ?_) AllReadyH.nil
      go_simp
      refine hK.out _ _ ?_ (fun hHeld => ?_)
      · exact ⟨intRow_at hG hka2, intRow_at hG hkb2⟩
      clear hK K
      try simp only [Act.put, List.setIfInBounds_toArray, List.set_cons_zero, List.set_cons_succ]
      refine wpAnyH_take (i := 8) (oi := ⟨some 17, _, _, _, _, _⟩) (v := ?_) rfl (by kernel_rfl) (by kernel_rfl) (by kernel_rfl) (fun _ _ _ h => h) (Or.inl ⟨by rfl, ?_⟩) (by exact hHeld) ?_
      rotate_left
      · (intro w hSw; (try dsimp only at hSw); go_simp; try (with_reducible rfl))
      simp only [Act.put, List.setIfInBounds_toArray, List.set_cons_zero, List.set_cons_succ]
      refine wpAnyH_take (i := 9) (oi := ⟨some 18, _, _, _, _, _⟩) (v := ?_) rfl (by kernel_rfl) (by kernel_rfl) (by kernel_rfl) (fun _ _ _ h => h) (Or.inl ⟨by rfl, ?_⟩) (by exact hHeld) ?_
      rotate_left
      · (intro w hSw; (try dsimp only at hSw); obtain ⟨s1, s2⟩ := hSw; go_simp; try (with_reducible rfl))
      simp only [Act.put, List.setIfInBounds_toArray, List.set_cons_zero, List.set_cons_succ]
      refine wpAnyH_take (i := 10) (oi := ⟨some 19, _, _, _, _, _⟩) (v := ?_) rfl (by kernel_rfl) (by kernel_rfl) (by kernel_rfl) (fun _ _ _ h => h) (Or.inl ⟨by rfl, ?_⟩) (by exact hHeld) ?_
      rotate_left
      · (intro w hSw; (try dsimp only at hSw); go_simp; try (with_reducible rfl))
      simp only [Act.put, List.setIfInBounds_toArray, List.set_cons_zero, List.set_cons_succ]
      refine wpAnyH_ready (rs := [11]) (by kernel_rfl) (by simp) ?_
      refine AllReadyH.cons (o := ⟨none, _, _, _, _, _⟩) rfl (fun K hK => ?_) AllReadyH.nil
      go_simp
      obtain ⟨we, hwe⟩ : ∃ we, we = wd.setCell ⟨w.heap.size, 5, none⟩ (.int .i64 (f kb)) := ⟨_, rfl⟩
      have hA := hA.set 5 (.int .i64 (f kb))
      have hZ := hZ.other (p := ⟨w.heap.size, 5, none⟩) (ne_succ' w.heap.size) (.int .i64 (f kb))
      have hG := hG.other (p := ⟨w.heap.size, 5, none⟩) (by dsimp only; omega) (.int .i64 (f kb))
      have hB := Below.setCell hB (p := ⟨w.heap.size, 5, none⟩) (Nat.le_refl _) (.int .i64 (f kb))
      rw [← hwe] at hA hZ hG hB
      rw [← hwe]
      clear hwe
      have q6 : we.cell? ⟨w.heap.size, 6, none⟩ = some (.int .i64 kb) := (At.cell hA 6).trans HQb2.out
      have f6 := hA.free 6
      refine hK.out _ _ ?_ (fun hHeld => ?_)
      · exact ⟨intRow_at hG hka2, intRow_at hG hkb2⟩
      clear hK K
      try simp only [Act.put, List.setIfInBounds_toArray, List.set_cons_zero, List.set_cons_succ]
      refine wpAnyH_take (i := 12) (oi := ⟨some 20, _, _, _, _, _⟩) (v := ?_) rfl (by kernel_rfl) (by kernel_rfl) (by kernel_rfl) (fun _ _ _ h => h) (Or.inl ⟨by rfl, ?_⟩) (by exact hHeld) ?_
      rotate_left
      · (intro w hSw; (try dsimp only at hSw); go_simp; try (with_reducible rfl))
      simp only [Act.put, List.setIfInBounds_toArray, List.set_cons_zero, List.set_cons_succ]
      refine wpAnyH_ready (rs := [13]) (by kernel_rfl) (by simp) ?_
      refine AllReadyH.cons (o := ⟨none, _, _, _, _, _⟩) rfl (fun K hK => ?_) AllReadyH.nil
      go_simp
      obtain ⟨wf, hwf⟩ : ∃ wf, wf = we.setCell ⟨w.heap.size, 6, none⟩ (.int .i64 (f ka)) := ⟨_, rfl⟩
      have hA := hA.set 6 (.int .i64 (f ka))
      have hZ := hZ.other (p := ⟨w.heap.size, 6, none⟩) (ne_succ' w.heap.size) (.int .i64 (f ka))
      have hG := hG.other (p := ⟨w.heap.size, 6, none⟩) (by dsimp only; omega) (.int .i64 (f ka))
      have hB := Below.setCell hB (p := ⟨w.heap.size, 6, none⟩) (Nat.le_refl _) (.int .i64 (f ka))
      rw [← hwf] at hA hZ hG hB
      rw [← hwf]
      clear hwf
      refine hK.out _ _ ?_ (fun hHeld => ?_)
      · exact ⟨intRow_at hG hka2, intRow_at hG hkb2⟩
      clear hK K
      try simp only [Act.put, List.setIfInBounds_toArray, List.set_cons_zero, List.set_cons_succ]
      refine wpAnyH_done (by kernel_rfl) ?_ _
      refine NoPanic.normal ?_
      have hA : At wf w.heap.size 34 (turnN f x).cs.toArray := by rw [HTn.out]; exact hA
      go_wp2_with (first
        | (with_reducible show wpList _ _ _ ({ dst := some 45, op := .load _ _, type := _, pos := _, after := _, guard := _ } :: _) _ _
           refine wpList_load_row rfl 34 _ rfl w.heap.size rfl 34 (turnN f x).cs.toArray (0, 0) _ hA Try.underlying34 rfl (by rw [List.size_toArray, Nd.cs_length]; kernel_rfl) ?_)
        | (with_reducible show wpList _ _ _ ({ dst := none, op := .store 34 _ _, type := _, pos := _, after := _, guard := _ } :: _) _ _
           refine wpList_store_row rfl 34 _ _ rfl (w.heap.size + 1) (turnN f x).cs.toArray rfl rfl 34 Nd.zero.cs.toArray hZ (by kernel_rfl) rfl hone ?_)
        | fail)
      exact bodyPost_ret (results_row1 Try.results26 _ _ (w.heap.size + 1) 34 (turnN f x).cs.toArray (0, 0) _ rfl (At.row hZ _) Try.underlying34 rfl (by rw [List.size_toArray, Nd.cs_length]; kernel_rfl)) rfl ⟨rfl, below_row hB (Nat.le_succ _) _⟩
    refine AllReadyH.cons (o := ⟨some 16, _, _, _, _, _⟩) rfl (fun K hK => ?_) AllReadyH.nil
    · go_simp
      refine hK.out _ _ ?_ (fun hHeld => ?_)
      · exact ⟨intRow_at hG hka2, intRow_at hG hkb2⟩
      clear hK K
      try simp only [Act.put, List.setIfInBounds_toArray, List.set_cons_zero, List.set_cons_succ]
      refine wpAnyH_take (i := 8) (oi := ⟨some 17, _, _, _, _, _⟩) (v := ?_) rfl (by kernel_rfl) (by kernel_rfl) (by kernel_rfl) (fun _ _ _ h => h) (Or.inl ⟨by rfl, ?_⟩) (by exact hHeld) ?_
      rotate_left
      · (intro w hSw; (try dsimp only at hSw); go_simp; try (with_reducible rfl))
      simp only [Act.put, List.setIfInBounds_toArray, List.set_cons_zero, List.set_cons_succ]
      refine wpAnyH_take (i := 9) (oi := ⟨some 18, _, _, _, _, _⟩) (v := ?_) rfl (by kernel_rfl) (by kernel_rfl) (by kernel_rfl) (fun _ _ _ h => h) (Or.inl ⟨by rfl, ?_⟩) (by exact hHeld) ?_
      rotate_left
      · (intro w hSw; (try dsimp only at hSw); obtain ⟨s1, s2⟩ := hSw; go_simp; try (with_reducible rfl))
      simp only [Act.put, List.setIfInBounds_toArray, List.set_cons_zero, List.set_cons_succ]
      refine wpAnyH_ready (rs := [2]) (by kernel_rfl) (by simp) ?_
      refine AllReadyH.cons (o := ⟨some 11, _, _, _, _, _⟩) rfl (fun K hK => ?_) AllReadyH.nil
      go_simp
      refine hK.out _ _ ?_ (fun hHeld => ?_)
      · exact ⟨intRow_at hG hka2, intRow_at hG hkb2⟩
      clear hK K
      try simp only [Act.put, List.setIfInBounds_toArray, List.set_cons_zero, List.set_cons_succ]
      refine wpAnyH_take (i := 3) (oi := ⟨some 12, _, _, _, _, _⟩) (v := ?_) rfl (by kernel_rfl) (by kernel_rfl) (by kernel_rfl) (fun _ _ _ h => h) (Or.inl ⟨by rfl, ?_⟩) (by exact hHeld) ?_
      rotate_left
      · (intro w hSw; (try dsimp only at hSw); go_simp; try (with_reducible rfl))
      simp only [Act.put, List.setIfInBounds_toArray, List.set_cons_zero, List.set_cons_succ]
      refine wpAnyH_take (i := 4) (oi := ⟨some 13, _, _, _, _, _⟩) (v := ?_) rfl (by kernel_rfl) (by kernel_rfl) (by kernel_rfl) (fun _ _ _ h => h) (Or.inl ⟨by rfl, ?_⟩) (by exact hHeld) ?_
      rotate_left
      · (intro w hSw; (try dsimp only at hSw); obtain ⟨s1, s2⟩ := hSw; go_simp; try (with_reducible rfl))
      simp only [Act.put, List.setIfInBounds_toArray, List.set_cons_zero, List.set_cons_succ]
      refine wpAnyH_take (i := 10) (oi := ⟨some 19, _, _, _, _, _⟩) (v := ?_) rfl (by kernel_rfl) (by kernel_rfl) (by kernel_rfl) (fun _ _ _ h => h) (Or.inl ⟨by rfl, ?_⟩) (by exact hHeld) ?_
      rotate_left
      · (intro w hSw; (try dsimp only at hSw); go_simp; try (with_reducible rfl))
      simp only [Act.put, List.setIfInBounds_toArray, List.set_cons_zero, List.set_cons_succ]
      refine wpAnyH_ready (rs := [11]) (by kernel_rfl) (by simp) ?_
      refine AllReadyH.cons (o := ⟨none, _, _, _, _, _⟩) rfl (fun K hK => ?_) AllReadyH.nil
      go_simp
      obtain ⟨we, hwe⟩ : ∃ we, we = wd.setCell ⟨w.heap.size, 5, none⟩ (.int .i64 (f kb)) := ⟨_, rfl⟩
      have hA := hA.set 5 (.int .i64 (f kb))
      have hZ := hZ.other (p := ⟨w.heap.size, 5, none⟩) (ne_succ' w.heap.size) (.int .i64 (f kb))
      have hG := hG.other (p := ⟨w.heap.size, 5, none⟩) (by dsimp only; omega) (.int .i64 (f kb))
      have hB := Below.setCell hB (p := ⟨w.heap.size, 5, none⟩) (Nat.le_refl _) (.int .i64 (f kb))
      rw [← hwe] at hA hZ hG hB
      rw [← hwe]
      clear hwe
      have q6 : we.cell? ⟨w.heap.size, 6, none⟩ = some (.int .i64 kb) := (At.cell hA 6).trans HQb2.out
      have f6 := hA.free 6
      refine hK.out _ _ ?_ (fun hHeld => ?_)
      · exact ⟨intRow_at hG hka2, intRow_at hG hkb2⟩
      clear hK K
      try simp only [Act.put, List.setIfInBounds_toArray, List.set_cons_zero, List.set_cons_succ]
      refine wpAnyH_take (i := 12) (oi := ⟨some 20, _, _, _, _, _⟩) (v := ?_) rfl (by kernel_rfl) (by kernel_rfl) (by kernel_rfl) (fun _ _ _ h => h) (Or.inl ⟨by rfl, ?_⟩) (by exact hHeld) ?_
      rotate_left
      · (intro w hSw; (try dsimp only at hSw); go_simp; try (with_reducible rfl))
      simp only [Act.put, List.setIfInBounds_toArray, List.set_cons_zero, List.set_cons_succ]
      refine wpAnyH_ready (rs := [13]) (by kernel_rfl) (by simp) ?_
      refine AllReadyH.cons (o := ⟨none, _, _, _, _, _⟩) rfl (fun K hK => ?_) AllReadyH.nil
      go_simp
      obtain ⟨wf, hwf⟩ : ∃ wf, wf = we.setCell ⟨w.heap.size, 6, none⟩ (.int .i64 (f ka)) := ⟨_, rfl⟩
      have hA := hA.set 6 (.int .i64 (f ka))
      have hZ := hZ.other (p := ⟨w.heap.size, 6, none⟩) (ne_succ' w.heap.size) (.int .i64 (f ka))
      have hG := hG.other (p := ⟨w.heap.size, 6, none⟩) (by dsimp only; omega) (.int .i64 (f ka))
      have hB := Below.setCell hB (p := ⟨w.heap.size, 6, none⟩) (Nat.le_refl _) (.int .i64 (f ka))
      rw [← hwf] at hA hZ hG hB
      rw [← hwf]
      clear hwf
      refine hK.out _ _ ?_ (fun hHeld => ?_)
      · exact ⟨intRow_at hG hka2, intRow_at hG hkb2⟩
      clear hK K
      try simp only [Act.put, List.setIfInBounds_toArray, List.set_cons_zero, List.set_cons_succ]
      refine wpAnyH_done (by kernel_rfl) ?_ _
      refine NoPanic.normal ?_
      have hA : At wf w.heap.size 34 (turnN f x).cs.toArray := by rw [HTn.out]; exact hA
      go_wp2_with (first
        | (with_reducible show wpList _ _ _ ({ dst := some 45, op := .load _ _, type := _, pos := _, after := _, guard := _ } :: _) _ _
           refine wpList_load_row rfl 34 _ rfl w.heap.size rfl 34 (turnN f x).cs.toArray (0, 0) _ hA Try.underlying34 rfl (by rw [List.size_toArray, Nd.cs_length]; kernel_rfl) ?_)
        | (with_reducible show wpList _ _ _ ({ dst := none, op := .store 34 _ _, type := _, pos := _, after := _, guard := _ } :: _) _ _
           refine wpList_store_row rfl 34 _ _ rfl (w.heap.size + 1) (turnN f x).cs.toArray rfl rfl 34 Nd.zero.cs.toArray hZ (by kernel_rfl) rfl hone ?_)
        | fail)
      exact bodyPost_ret (results_row1 Try.results26 _ _ (w.heap.size + 1) 34 (turnN f x).cs.toArray (0, 0) _ rfl (At.row hZ _) Try.underlying34 rfl (by rw [List.size_toArray, Nd.cs_length]; kernel_rfl)) rfl ⟨rfl, below_row hB (Nat.le_succ _) _⟩
  by_cases hk4 : x.kind = 4
  · have HKd := Lib.hid hk4
    rw [hk4] at hc
    clear hk4
    have hab := HX.out.2.1 (by have := HKd.out; omega)
    obtain ⟨ka, hka⟩ : ∃ q : Nat, x.a = (q : Int) := ⟨x.a.toNat, by omega⟩
    obtain ⟨kb, hkb⟩ : ∃ q : Nat, x.b = (q : Int) := ⟨x.b.toNat, by omega⟩
    have hka0 : (0 : Int) ≤ (ka : Int) := by omega
    have hkb0 : (0 : Int) ≤ (kb : Int) := by omega
    have hka1 : (ka : Int) < (n : Int) := by omega
    have hkb1 : (kb : Int) < (n : Int) := by omega
    have hka2 : ka < n := by omega
    have hkb2 : kb < n := by omega
    have HQa : Hid (x.cs.toArray[5]? = some (.int .i64 ka)) := Lib.hid (by show some (Value.int .i64 x.a) = _; rw [hka])
    have HQb : Hid (x.cs.toArray[6]? = some (.int .i64 kb)) := Lib.hid (by show some (Value.int .i64 x.b) = _; rw [hkb])
    have HQb2 : Hid ((x.cs.toArray.setIfInBounds 5 (.int .i64 (f ka)))[6]? = some (.int .i64 kb)) := Lib.hid (by show some (Value.int .i64 x.b) = _; rw [hkb])
    have HTn : Hid ((turnN f x).cs.toArray = (x.cs.toArray.setIfInBounds 5 (.int .i64 (f ka))).setIfInBounds 6 (.int .i64 (f kb))) := Lib.hid (by
      unfold turnN
      rw [if_neg (by have := HKd.out; omega), if_pos (by have := HKd.out; omega), hka, hkb, Int.toNat_natCast, Int.toNat_natCast]
      rfl)
    clear hab hka hkb
    go_enter Try.func26, Try.ntmps26
    go_wp2_with fail
    try change Code.wp _ _ _ _ (twoN w x Nd.zero)
    have hA := HA.out
    have hZ := HZ.out
    have hB := HB.out
    have hG := HG.out
    obtain ⟨wc, hwc⟩ : ∃ wc, wc = twoN w x Nd.zero := ⟨_, rfl⟩
    rw [← hwc] at hA hZ hB hG ⊢
    clear hwc hc
    refine wp_region_noPanic ?_
    refine wp_region_held_drew (S := (fun w' => w'.cell? ⟨gt, ka, none⟩ = some (.int .i64 (f ka)) ∧ w'.cell? ⟨gt, kb, none⟩ = some (.int .i64 (f kb)))) (by kernel_rfl) (by exact ⟨intRow_at hG hka2, intRow_at hG hkb2⟩) (fun hHeld => ?_)
    have hA := hA.drew
    have hZ := hZ.drew
    have hG := hG.drew
    have hB := below_drewN' hB 1
    change Below _ _ wc.drew at hB
    obtain ⟨wd, hwd⟩ : ∃ wd, wd = wc.drew := ⟨_, rfl⟩
    rw [← hwd] at hA hZ hG hB ⊢
    try rw [← hwd] at hHeld
    clear hwd
    have q5 : wd.cell? ⟨w.heap.size, 5, none⟩ = some (.int .i64 ka) := (At.cell hA 5).trans HQa.out
    have q6 : wd.cell? ⟨w.heap.size, 6, none⟩ = some (.int .i64 kb) := (At.cell hA 6).trans HQb.out
    have f5 := hA.free 5
    have f6 := hA.free 6
    refine wpAnyH_take (i := 0) (oi := ⟨some 24, _, _, _, _, _⟩) (v := ?_) rfl (by kernel_rfl) (by kernel_rfl) (by kernel_rfl) (fun _ _ _ h => h) (Or.inl ⟨by rfl, ?_⟩) (by exact hHeld) ?_
    rotate_left
    · (intro w hSw; (try dsimp only at hSw); go_simp; try (with_reducible rfl))
    simp only [Act.put, List.setIfInBounds_toArray, List.set_cons_zero, List.set_cons_succ]
    refine wpAnyH_take (i := 1) (oi := ⟨some 25, _, _, _, _, _⟩) (v := ?_) rfl (by kernel_rfl) (by kernel_rfl) (by kernel_rfl) (fun _ _ _ h => h) (Or.inl ⟨by rfl, ?_⟩) (by exact hHeld) ?_
    rotate_left
    · (intro w hSw; (try dsimp only at hSw); go_simp; try (with_reducible rfl))
    simp only [Act.put, List.setIfInBounds_toArray, List.set_cons_zero, List.set_cons_succ]
    refine wpAnyH_take (i := 5) (oi := ⟨some 29, _, _, _, _, _⟩) (v := ?_) rfl (by kernel_rfl) (by kernel_rfl) (by kernel_rfl) (fun _ _ _ h => h) (Or.inl ⟨by rfl, ?_⟩) (by exact hHeld) ?_
    rotate_left
    · (intro w hSw; (try dsimp only at hSw); go_simp; try (with_reducible rfl))
    simp only [Act.put, List.setIfInBounds_toArray, List.set_cons_zero, List.set_cons_succ]
    refine wpAnyH_take (i := 6) (oi := ⟨some 30, _, _, _, _, _⟩) (v := ?_) rfl (by kernel_rfl) (by kernel_rfl) (by kernel_rfl) (fun _ _ _ h => h) (Or.inl ⟨by rfl, ?_⟩) (by exact hHeld) ?_
    rotate_left
    · (intro w hSw; (try dsimp only at hSw); go_simp; try (with_reducible rfl))
    simp only [Act.put, List.setIfInBounds_toArray, List.set_cons_zero, List.set_cons_succ]
    refine wpAnyH_ready (rs := [2, 7]) (by kernel_rfl) (by simp) ?_
    refine AllReadyH.cons (o := ⟨some 26, _, _, _, _, _⟩) rfl (fun K hK => ?_) ?_
    · go_simp
      refine hK.out _ _ ?_ (fun hHeld => ?_)
      · exact ⟨intRow_at hG hka2, intRow_at hG hkb2⟩
      clear hK K
      try simp only [Act.put, List.setIfInBounds_toArray, List.set_cons_zero, List.set_cons_succ]
      refine wpAnyH_take (i := 3) (oi := ⟨some 27, _, _, _, _, _⟩) (v := ?_) rfl (by kernel_rfl) (by kernel_rfl) (by kernel_rfl) (fun _ _ _ h => h) (Or.inl ⟨by rfl, ?_⟩) (by exact hHeld) ?_
      rotate_left
      · (intro w hSw; (try dsimp only at hSw); go_simp; try (with_reducible rfl))
      simp only [Act.put, List.setIfInBounds_toArray, List.set_cons_zero, List.set_cons_succ]
      refine wpAnyH_take (i := 4) (oi := ⟨some 28, _, _, _, _, _⟩) (v := ?_) rfl (by kernel_rfl) (by kernel_rfl) (by kernel_rfl) (fun _ _ _ h => h) (Or.inl ⟨by rfl, ?_⟩) (by exact hHeld) ?_
      rotate_left
      · (intro w hSw; (try dsimp only at hSw); obtain ⟨s1, s2⟩ := hSw; go_simp; try (with_reducible rfl))
      simp only [Act.put, List.setIfInBounds_toArray, List.set_cons_zero, List.set_cons_succ]
      refine wpAnyH_ready (rs := [7]) (by kernel_rfl) (by simp) ?_
      refine AllReadyH.cons (o := ⟨some 31, _, _, _, _, _⟩) rfl (fun K hK => ?_) AllReadyH.nil
      go_simp
      refine hK.out _ _ ?_ (fun hHeld => ?_)
      · exact ⟨intRow_at hG hka2, intRow_at hG hkb2⟩
      clear hK K
      try simp only [Act.put, List.setIfInBounds_toArray, List.set_cons_zero, List.set_cons_succ]
      refine wpAnyH_take (i := 8) (oi := ⟨some 32, _, _, _, _, _⟩) (v := ?_) rfl (by kernel_rfl) (by kernel_rfl) (by kernel_rfl) (fun _ _ _ h => h) (Or.inl ⟨by rfl, ?_⟩) (by exact hHeld) ?_
      rotate_left
      · (intro w hSw; (try dsimp only at hSw); go_simp; try (with_reducible rfl))
      simp only [Act.put, List.setIfInBounds_toArray, List.set_cons_zero, List.set_cons_succ]
      refine wpAnyH_take (i := 9) (oi := ⟨some 33, _, _, _, _, _⟩) (v := ?_) rfl (by kernel_rfl) (by kernel_rfl) (by kernel_rfl) (fun _ _ _ h => h) (Or.inl ⟨by rfl, ?_⟩) (by exact hHeld) ?_
      rotate_left
      · (intro w hSw; (try dsimp only at hSw); obtain ⟨s1, s2⟩ := hSw; go_simp; try (with_reducible rfl))
      simp only [Act.put, List.setIfInBounds_toArray, List.set_cons_zero, List.set_cons_succ]
      refine wpAnyH_take (i := 10) (oi := ⟨some 34, _, _, _, _, _⟩) (v := ?_) rfl (by kernel_rfl) (by kernel_rfl) (by kernel_rfl) (fun _ _ _ h => h) (Or.inl ⟨by rfl, ?_⟩) (by exact hHeld) ?_
      rotate_left
      · (intro w hSw; (try dsimp only at hSw); go_simp; try (with_reducible rfl))
      simp only [Act.put, List.setIfInBounds_toArray, List.set_cons_zero, List.set_cons_succ]
      refine wpAnyH_ready (rs := [11]) (by kernel_rfl) (by simp) ?_
      refine AllReadyH.cons (o := ⟨none, _, _, _, _, _⟩) rfl (fun K hK => ?_) AllReadyH.nil
      go_simp
      obtain ⟨we, hwe⟩ : ∃ we, we = wd.setCell ⟨w.heap.size, 5, none⟩ (.int .i64 (f ka)) := ⟨_, rfl⟩
      have hA := hA.set 5 (.int .i64 (f ka))
      have hZ := hZ.other (p := ⟨w.heap.size, 5, none⟩) (ne_succ' w.heap.size) (.int .i64 (f ka))
      have hG := hG.other (p := ⟨w.heap.size, 5, none⟩) (by dsimp only; omega) (.int .i64 (f ka))
      have hB := Below.setCell hB (p := ⟨w.heap.size, 5, none⟩) (Nat.le_refl _) (.int .i64 (f ka))
      rw [← hwe] at hA hZ hG hB
      rw [← hwe]
      clear hwe
      have q6 : we.cell? ⟨w.heap.size, 6, none⟩ = some (.int .i64 kb) := (At.cell hA 6).trans HQb2.out
      have f6 := hA.free 6
      refine hK.out _ _ ?_ (fun hHeld => ?_)
      · exact ⟨intRow_at hG hka2, intRow_at hG hkb2⟩
      clear hK K
      try simp only [Act.put, List.setIfInBounds_toArray, List.set_cons_zero, List.set_cons_succ]
      refine wpAnyH_take (i := 12) (oi := ⟨some 35, _, _, _, _, _⟩) (v := ?_) rfl (by kernel_rfl) (by kernel_rfl) (by kernel_rfl) (fun _ _ _ h => h) (Or.inl ⟨by rfl, ?_⟩) (by exact hHeld) ?_
      rotate_left
      · (intro w hSw; (try dsimp only at hSw); go_simp; try (with_reducible rfl))
      simp only [Act.put, List.setIfInBounds_toArray, List.set_cons_zero, List.set_cons_succ]
      refine wpAnyH_ready (rs := [13]) (by kernel_rfl) (by simp) ?_
      refine AllReadyH.cons (o := ⟨none, _, _, _, _, _⟩) rfl (fun K hK => ?_) AllReadyH.nil
      go_simp
      obtain ⟨wf, hwf⟩ : ∃ wf, wf = we.setCell ⟨w.heap.size, 6, none⟩ (.int .i64 (f kb)) := ⟨_, rfl⟩
      have hA := hA.set 6 (.int .i64 (f kb))
      have hZ := hZ.other (p := ⟨w.heap.size, 6, none⟩) (ne_succ' w.heap.size) (.int .i64 (f kb))
      have hG := hG.other (p := ⟨w.heap.size, 6, none⟩) (by dsimp only; omega) (.int .i64 (f kb))
      have hB := Below.setCell hB (p := ⟨w.heap.size, 6, none⟩) (Nat.le_refl _) (.int .i64 (f kb))
      rw [← hwf] at hA hZ hG hB
      rw [← hwf]
      clear hwf
      refine hK.out _ _ ?_ (fun hHeld => ?_)
      · exact ⟨intRow_at hG hka2, intRow_at hG hkb2⟩
      clear hK K
      try simp only [Act.put, List.setIfInBounds_toArray, List.set_cons_zero, List.set_cons_succ]
      refine wpAnyH_done (by kernel_rfl) ?_ _
      refine NoPanic.normal ?_
      have hA : At wf w.heap.size 34 (turnN f x).cs.toArray := by rw [HTn.out]; exact hA
      go_wp2_with (first
        | (with_reducible show wpList _ _ _ ({ dst := some 45, op := .load _ _, type := _, pos := _, after := _, guard := _ } :: _) _ _
           refine wpList_load_row rfl 34 _ rfl w.heap.size rfl 34 (turnN f x).cs.toArray (0, 0) _ hA Try.underlying34 rfl (by rw [List.size_toArray, Nd.cs_length]; kernel_rfl) ?_)
        | (with_reducible show wpList _ _ _ ({ dst := none, op := .store 34 _ _, type := _, pos := _, after := _, guard := _ } :: _) _ _
           refine wpList_store_row rfl 34 _ _ rfl (w.heap.size + 1) (turnN f x).cs.toArray rfl rfl 34 Nd.zero.cs.toArray hZ (by kernel_rfl) rfl hone ?_)
        | fail)
      exact bodyPost_ret (results_row1 Try.results26 _ _ (w.heap.size + 1) 34 (turnN f x).cs.toArray (0, 0) _ rfl (At.row hZ _) Try.underlying34 rfl (by rw [List.size_toArray, Nd.cs_length]; kernel_rfl)) rfl ⟨rfl, below_row hB (Nat.le_succ _) _⟩
    refine AllReadyH.cons (o := ⟨some 31, _, _, _, _, _⟩) rfl (fun K hK => ?_) AllReadyH.nil
    · go_simp
      refine hK.out _ _ ?_ (fun hHeld => ?_)
      · exact ⟨intRow_at hG hka2, intRow_at hG hkb2⟩
      clear hK K
      try simp only [Act.put, List.setIfInBounds_toArray, List.set_cons_zero, List.set_cons_succ]
      refine wpAnyH_take (i := 8) (oi := ⟨some 32, _, _, _, _, _⟩) (v := ?_) rfl (by kernel_rfl) (by kernel_rfl) (by kernel_rfl) (fun _ _ _ h => h) (Or.inl ⟨by rfl, ?_⟩) (by exact hHeld) ?_
      rotate_left
      · (intro w hSw; (try dsimp only at hSw); go_simp; try (with_reducible rfl))
      simp only [Act.put, List.setIfInBounds_toArray, List.set_cons_zero, List.set_cons_succ]
      refine wpAnyH_take (i := 9) (oi := ⟨some 33, _, _, _, _, _⟩) (v := ?_) rfl (by kernel_rfl) (by kernel_rfl) (by kernel_rfl) (fun _ _ _ h => h) (Or.inl ⟨by rfl, ?_⟩) (by exact hHeld) ?_
      rotate_left
      · (intro w hSw; (try dsimp only at hSw); obtain ⟨s1, s2⟩ := hSw; go_simp; try (with_reducible rfl))
      simp only [Act.put, List.setIfInBounds_toArray, List.set_cons_zero, List.set_cons_succ]
      refine wpAnyH_ready (rs := [2]) (by kernel_rfl) (by simp) ?_
      refine AllReadyH.cons (o := ⟨some 26, _, _, _, _, _⟩) rfl (fun K hK => ?_) AllReadyH.nil
      go_simp
      refine hK.out _ _ ?_ (fun hHeld => ?_)
      · exact ⟨intRow_at hG hka2, intRow_at hG hkb2⟩
      clear hK K
      try simp only [Act.put, List.setIfInBounds_toArray, List.set_cons_zero, List.set_cons_succ]
      refine wpAnyH_take (i := 3) (oi := ⟨some 27, _, _, _, _, _⟩) (v := ?_) rfl (by kernel_rfl) (by kernel_rfl) (by kernel_rfl) (fun _ _ _ h => h) (Or.inl ⟨by rfl, ?_⟩) (by exact hHeld) ?_
      rotate_left
      · (intro w hSw; (try dsimp only at hSw); go_simp; try (with_reducible rfl))
      simp only [Act.put, List.setIfInBounds_toArray, List.set_cons_zero, List.set_cons_succ]
      refine wpAnyH_take (i := 4) (oi := ⟨some 28, _, _, _, _, _⟩) (v := ?_) rfl (by kernel_rfl) (by kernel_rfl) (by kernel_rfl) (fun _ _ _ h => h) (Or.inl ⟨by rfl, ?_⟩) (by exact hHeld) ?_
      rotate_left
      · (intro w hSw; (try dsimp only at hSw); obtain ⟨s1, s2⟩ := hSw; go_simp; try (with_reducible rfl))
      simp only [Act.put, List.setIfInBounds_toArray, List.set_cons_zero, List.set_cons_succ]
      refine wpAnyH_take (i := 10) (oi := ⟨some 34, _, _, _, _, _⟩) (v := ?_) rfl (by kernel_rfl) (by kernel_rfl) (by kernel_rfl) (fun _ _ _ h => h) (Or.inl ⟨by rfl, ?_⟩) (by exact hHeld) ?_
      rotate_left
      · (intro w hSw; (try dsimp only at hSw); go_simp; try (with_reducible rfl))
      simp only [Act.put, List.setIfInBounds_toArray, List.set_cons_zero, List.set_cons_succ]
      refine wpAnyH_ready (rs := [11]) (by kernel_rfl) (by simp) ?_
      refine AllReadyH.cons (o := ⟨none, _, _, _, _, _⟩) rfl (fun K hK => ?_) AllReadyH.nil
      go_simp
      obtain ⟨we, hwe⟩ : ∃ we, we = wd.setCell ⟨w.heap.size, 5, none⟩ (.int .i64 (f ka)) := ⟨_, rfl⟩
      have hA := hA.set 5 (.int .i64 (f ka))
      have hZ := hZ.other (p := ⟨w.heap.size, 5, none⟩) (ne_succ' w.heap.size) (.int .i64 (f ka))
      have hG := hG.other (p := ⟨w.heap.size, 5, none⟩) (by dsimp only; omega) (.int .i64 (f ka))
      have hB := Below.setCell hB (p := ⟨w.heap.size, 5, none⟩) (Nat.le_refl _) (.int .i64 (f ka))
      rw [← hwe] at hA hZ hG hB
      rw [← hwe]
      clear hwe
      have q6 : we.cell? ⟨w.heap.size, 6, none⟩ = some (.int .i64 kb) := (At.cell hA 6).trans HQb2.out
      have f6 := hA.free 6
      refine hK.out _ _ ?_ (fun hHeld => ?_)
      · exact ⟨intRow_at hG hka2, intRow_at hG hkb2⟩
      clear hK K
      try simp only [Act.put, List.setIfInBounds_toArray, List.set_cons_zero, List.set_cons_succ]
      refine wpAnyH_take (i := 12) (oi := ⟨some 35, _, _, _, _, _⟩) (v := ?_) rfl (by kernel_rfl) (by kernel_rfl) (by kernel_rfl) (fun _ _ _ h => h) (Or.inl ⟨by rfl, ?_⟩) (by exact hHeld) ?_
      rotate_left
      · (intro w hSw; (try dsimp only at hSw); go_simp; try (with_reducible rfl))
      simp only [Act.put, List.setIfInBounds_toArray, List.set_cons_zero, List.set_cons_succ]
      refine wpAnyH_ready (rs := [13]) (by kernel_rfl) (by simp) ?_
      refine AllReadyH.cons (o := ⟨none, _, _, _, _, _⟩) rfl (fun K hK => ?_) AllReadyH.nil
      go_simp
      obtain ⟨wf, hwf⟩ : ∃ wf, wf = we.setCell ⟨w.heap.size, 6, none⟩ (.int .i64 (f kb)) := ⟨_, rfl⟩
      have hA := hA.set 6 (.int .i64 (f kb))
      have hZ := hZ.other (p := ⟨w.heap.size, 6, none⟩) (ne_succ' w.heap.size) (.int .i64 (f kb))
      have hG := hG.other (p := ⟨w.heap.size, 6, none⟩) (by dsimp only; omega) (.int .i64 (f kb))
      have hB := Below.setCell hB (p := ⟨w.heap.size, 6, none⟩) (Nat.le_refl _) (.int .i64 (f kb))
      rw [← hwf] at hA hZ hG hB
      rw [← hwf]
      clear hwf
      refine hK.out _ _ ?_ (fun hHeld => ?_)
      · exact ⟨intRow_at hG hka2, intRow_at hG hkb2⟩
      clear hK K
      try simp only [Act.put, List.setIfInBounds_toArray, List.set_cons_zero, List.set_cons_succ]
      refine wpAnyH_done (by kernel_rfl) ?_ _
      refine NoPanic.normal ?_
      have hA : At wf w.heap.size 34 (turnN f x).cs.toArray := by rw [HTn.out]; exact hA
      go_wp2_with (first
        | (with_reducible show wpList _ _ _ ({ dst := some 45, op := .load _ _, type := _, pos := _, after := _, guard := _ } :: _) _ _
           refine wpList_load_row rfl 34 _ rfl w.heap.size rfl 34 (turnN f x).cs.toArray (0, 0) _ hA Try.underlying34 rfl (by rw [List.size_toArray, Nd.cs_length]; kernel_rfl) ?_)
        | (with_reducible show wpList _ _ _ ({ dst := none, op := .store 34 _ _, type := _, pos := _, after := _, guard := _ } :: _) _ _
           refine wpList_store_row rfl 34 _ _ rfl (w.heap.size + 1) (turnN f x).cs.toArray rfl rfl 34 Nd.zero.cs.toArray hZ (by kernel_rfl) rfl hone ?_)
        | fail)
      exact bodyPost_ret (results_row1 Try.results26 _ _ (w.heap.size + 1) 34 (turnN f x).cs.toArray (0, 0) _ rfl (At.row hZ _) Try.underlying34 rfl (by rw [List.size_toArray, Nd.cs_length]; kernel_rfl)) rfl ⟨rfl, below_row hB (Nat.le_succ _) _⟩
  by_cases hk5 : x.kind = 5
  · have HKd := Lib.hid hk5
    rw [hk5] at hc
    clear hk5
    have hab := HX.out.2.1 (by have := HKd.out; omega)
    obtain ⟨ka, hka⟩ : ∃ q : Nat, x.a = (q : Int) := ⟨x.a.toNat, by omega⟩
    obtain ⟨kb, hkb⟩ : ∃ q : Nat, x.b = (q : Int) := ⟨x.b.toNat, by omega⟩
    have hka0 : (0 : Int) ≤ (ka : Int) := by omega
    have hkb0 : (0 : Int) ≤ (kb : Int) := by omega
    have hka1 : (ka : Int) < (n : Int) := by omega
    have hkb1 : (kb : Int) < (n : Int) := by omega
    have hka2 : ka < n := by omega
    have hkb2 : kb < n := by omega
    have HQa : Hid (x.cs.toArray[5]? = some (.int .i64 ka)) := Lib.hid (by show some (Value.int .i64 x.a) = _; rw [hka])
    have HQb : Hid (x.cs.toArray[6]? = some (.int .i64 kb)) := Lib.hid (by show some (Value.int .i64 x.b) = _; rw [hkb])
    have HQb2 : Hid ((x.cs.toArray.setIfInBounds 5 (.int .i64 (f ka)))[6]? = some (.int .i64 kb)) := Lib.hid (by show some (Value.int .i64 x.b) = _; rw [hkb])
    have HTn : Hid ((turnN f x).cs.toArray = (x.cs.toArray.setIfInBounds 5 (.int .i64 (f ka))).setIfInBounds 6 (.int .i64 (f kb))) := Lib.hid (by
      unfold turnN
      rw [if_neg (by have := HKd.out; omega), if_pos (by have := HKd.out; omega), hka, hkb, Int.toNat_natCast, Int.toNat_natCast]
      rfl)
    clear hab hka hkb
    go_enter Try.func26, Try.ntmps26
    go_wp2_with fail
    try change Code.wp _ _ _ _ (twoN w x Nd.zero)
    have hA := HA.out
    have hZ := HZ.out
    have hB := HB.out
    have hG := HG.out
    obtain ⟨wc, hwc⟩ : ∃ wc, wc = twoN w x Nd.zero := ⟨_, rfl⟩
    rw [← hwc] at hA hZ hB hG ⊢
    clear hwc hc
    refine wp_region_noPanic ?_
    refine wp_region_held_drew (S := (fun w' => w'.cell? ⟨gt, ka, none⟩ = some (.int .i64 (f ka)) ∧ w'.cell? ⟨gt, kb, none⟩ = some (.int .i64 (f kb)))) (by kernel_rfl) (by exact ⟨intRow_at hG hka2, intRow_at hG hkb2⟩) (fun hHeld => ?_)
    have hA := hA.drew
    have hZ := hZ.drew
    have hG := hG.drew
    have hB := below_drewN' hB 1
    change Below _ _ wc.drew at hB
    obtain ⟨wd, hwd⟩ : ∃ wd, wd = wc.drew := ⟨_, rfl⟩
    rw [← hwd] at hA hZ hG hB ⊢
    try rw [← hwd] at hHeld
    clear hwd
    have q5 : wd.cell? ⟨w.heap.size, 5, none⟩ = some (.int .i64 ka) := (At.cell hA 5).trans HQa.out
    have q6 : wd.cell? ⟨w.heap.size, 6, none⟩ = some (.int .i64 kb) := (At.cell hA 6).trans HQb.out
    have f5 := hA.free 5
    have f6 := hA.free 6
    refine wpAnyH_take (i := 0) (oi := ⟨some 24, _, _, _, _, _⟩) (v := ?_) rfl (by kernel_rfl) (by kernel_rfl) (by kernel_rfl) (fun _ _ _ h => h) (Or.inl ⟨by rfl, ?_⟩) (by exact hHeld) ?_
    rotate_left
    · (intro w hSw; (try dsimp only at hSw); go_simp; try (with_reducible rfl))
    simp only [Act.put, List.setIfInBounds_toArray, List.set_cons_zero, List.set_cons_succ]
    refine wpAnyH_take (i := 1) (oi := ⟨some 25, _, _, _, _, _⟩) (v := ?_) rfl (by kernel_rfl) (by kernel_rfl) (by kernel_rfl) (fun _ _ _ h => h) (Or.inl ⟨by rfl, ?_⟩) (by exact hHeld) ?_
    rotate_left
    · (intro w hSw; (try dsimp only at hSw); go_simp; try (with_reducible rfl))
    simp only [Act.put, List.setIfInBounds_toArray, List.set_cons_zero, List.set_cons_succ]
    refine wpAnyH_take (i := 5) (oi := ⟨some 29, _, _, _, _, _⟩) (v := ?_) rfl (by kernel_rfl) (by kernel_rfl) (by kernel_rfl) (fun _ _ _ h => h) (Or.inl ⟨by rfl, ?_⟩) (by exact hHeld) ?_
    rotate_left
    · (intro w hSw; (try dsimp only at hSw); go_simp; try (with_reducible rfl))
    simp only [Act.put, List.setIfInBounds_toArray, List.set_cons_zero, List.set_cons_succ]
    refine wpAnyH_take (i := 6) (oi := ⟨some 30, _, _, _, _, _⟩) (v := ?_) rfl (by kernel_rfl) (by kernel_rfl) (by kernel_rfl) (fun _ _ _ h => h) (Or.inl ⟨by rfl, ?_⟩) (by exact hHeld) ?_
    rotate_left
    · (intro w hSw; (try dsimp only at hSw); go_simp; try (with_reducible rfl))
    simp only [Act.put, List.setIfInBounds_toArray, List.set_cons_zero, List.set_cons_succ]
    refine wpAnyH_ready (rs := [2, 7]) (by kernel_rfl) (by simp) ?_
    refine AllReadyH.cons (o := ⟨some 26, _, _, _, _, _⟩) rfl (fun K hK => ?_) ?_
    · go_simp
      refine hK.out _ _ ?_ (fun hHeld => ?_)
      · exact ⟨intRow_at hG hka2, intRow_at hG hkb2⟩
      clear hK K
      try simp only [Act.put, List.setIfInBounds_toArray, List.set_cons_zero, List.set_cons_succ]
      refine wpAnyH_take (i := 3) (oi := ⟨some 27, _, _, _, _, _⟩) (v := ?_) rfl (by kernel_rfl) (by kernel_rfl) (by kernel_rfl) (fun _ _ _ h => h) (Or.inl ⟨by rfl, ?_⟩) (by exact hHeld) ?_
      rotate_left
      · (intro w hSw; (try dsimp only at hSw); go_simp; try (with_reducible rfl))
      simp only [Act.put, List.setIfInBounds_toArray, List.set_cons_zero, List.set_cons_succ]
      refine wpAnyH_take (i := 4) (oi := ⟨some 28, _, _, _, _, _⟩) (v := ?_) rfl (by kernel_rfl) (by kernel_rfl) (by kernel_rfl) (fun _ _ _ h => h) (Or.inl ⟨by rfl, ?_⟩) (by exact hHeld) ?_
      rotate_left
      · (intro w hSw; (try dsimp only at hSw); obtain ⟨s1, s2⟩ := hSw; go_simp; try (with_reducible rfl))
      simp only [Act.put, List.setIfInBounds_toArray, List.set_cons_zero, List.set_cons_succ]
      refine wpAnyH_ready (rs := [7]) (by kernel_rfl) (by simp) ?_
      refine AllReadyH.cons (o := ⟨some 31, _, _, _, _, _⟩) rfl (fun K hK => ?_) AllReadyH.nil
      go_simp
      refine hK.out _ _ ?_ (fun hHeld => ?_)
      · exact ⟨intRow_at hG hka2, intRow_at hG hkb2⟩
      clear hK K
      try simp only [Act.put, List.setIfInBounds_toArray, List.set_cons_zero, List.set_cons_succ]
      refine wpAnyH_take (i := 8) (oi := ⟨some 32, _, _, _, _, _⟩) (v := ?_) rfl (by kernel_rfl) (by kernel_rfl) (by kernel_rfl) (fun _ _ _ h => h) (Or.inl ⟨by rfl, ?_⟩) (by exact hHeld) ?_
      rotate_left
      · (intro w hSw; (try dsimp only at hSw); go_simp; try (with_reducible rfl))
      simp only [Act.put, List.setIfInBounds_toArray, List.set_cons_zero, List.set_cons_succ]
      refine wpAnyH_take (i := 9) (oi := ⟨some 33, _, _, _, _, _⟩) (v := ?_) rfl (by kernel_rfl) (by kernel_rfl) (by kernel_rfl) (fun _ _ _ h => h) (Or.inl ⟨by rfl, ?_⟩) (by exact hHeld) ?_
      rotate_left
      · (intro w hSw; (try dsimp only at hSw); obtain ⟨s1, s2⟩ := hSw; go_simp; try (with_reducible rfl))
      simp only [Act.put, List.setIfInBounds_toArray, List.set_cons_zero, List.set_cons_succ]
      refine wpAnyH_take (i := 10) (oi := ⟨some 34, _, _, _, _, _⟩) (v := ?_) rfl (by kernel_rfl) (by kernel_rfl) (by kernel_rfl) (fun _ _ _ h => h) (Or.inl ⟨by rfl, ?_⟩) (by exact hHeld) ?_
      rotate_left
      · (intro w hSw; (try dsimp only at hSw); go_simp; try (with_reducible rfl))
      simp only [Act.put, List.setIfInBounds_toArray, List.set_cons_zero, List.set_cons_succ]
      refine wpAnyH_ready (rs := [11]) (by kernel_rfl) (by simp) ?_
      refine AllReadyH.cons (o := ⟨none, _, _, _, _, _⟩) rfl (fun K hK => ?_) AllReadyH.nil
      go_simp
      obtain ⟨we, hwe⟩ : ∃ we, we = wd.setCell ⟨w.heap.size, 5, none⟩ (.int .i64 (f ka)) := ⟨_, rfl⟩
      have hA := hA.set 5 (.int .i64 (f ka))
      have hZ := hZ.other (p := ⟨w.heap.size, 5, none⟩) (ne_succ' w.heap.size) (.int .i64 (f ka))
      have hG := hG.other (p := ⟨w.heap.size, 5, none⟩) (by dsimp only; omega) (.int .i64 (f ka))
      have hB := Below.setCell hB (p := ⟨w.heap.size, 5, none⟩) (Nat.le_refl _) (.int .i64 (f ka))
      rw [← hwe] at hA hZ hG hB
      rw [← hwe]
      clear hwe
      have q6 : we.cell? ⟨w.heap.size, 6, none⟩ = some (.int .i64 kb) := (At.cell hA 6).trans HQb2.out
      have f6 := hA.free 6
      refine hK.out _ _ ?_ (fun hHeld => ?_)
      · exact ⟨intRow_at hG hka2, intRow_at hG hkb2⟩
      clear hK K
      try simp only [Act.put, List.setIfInBounds_toArray, List.set_cons_zero, List.set_cons_succ]
      refine wpAnyH_take (i := 12) (oi := ⟨some 35, _, _, _, _, _⟩) (v := ?_) rfl (by kernel_rfl) (by kernel_rfl) (by kernel_rfl) (fun _ _ _ h => h) (Or.inl ⟨by rfl, ?_⟩) (by exact hHeld) ?_
      rotate_left
      · (intro w hSw; (try dsimp only at hSw); go_simp; try (with_reducible rfl))
      simp only [Act.put, List.setIfInBounds_toArray, List.set_cons_zero, List.set_cons_succ]
      refine wpAnyH_ready (rs := [13]) (by kernel_rfl) (by simp) ?_
      refine AllReadyH.cons (o := ⟨none, _, _, _, _, _⟩) rfl (fun K hK => ?_) AllReadyH.nil
      go_simp
      obtain ⟨wf, hwf⟩ : ∃ wf, wf = we.setCell ⟨w.heap.size, 6, none⟩ (.int .i64 (f kb)) := ⟨_, rfl⟩
      have hA := hA.set 6 (.int .i64 (f kb))
      have hZ := hZ.other (p := ⟨w.heap.size, 6, none⟩) (ne_succ' w.heap.size) (.int .i64 (f kb))
      have hG := hG.other (p := ⟨w.heap.size, 6, none⟩) (by dsimp only; omega) (.int .i64 (f kb))
      have hB := Below.setCell hB (p := ⟨w.heap.size, 6, none⟩) (Nat.le_refl _) (.int .i64 (f kb))
      rw [← hwf] at hA hZ hG hB
      rw [← hwf]
      clear hwf
      refine hK.out _ _ ?_ (fun hHeld => ?_)
      · exact ⟨intRow_at hG hka2, intRow_at hG hkb2⟩
      clear hK K
      try simp only [Act.put, List.setIfInBounds_toArray, List.set_cons_zero, List.set_cons_succ]
      refine wpAnyH_done (by kernel_rfl) ?_ _
      refine NoPanic.normal ?_
      have hA : At wf w.heap.size 34 (turnN f x).cs.toArray := by rw [HTn.out]; exact hA
      go_wp2_with (first
        | (with_reducible show wpList _ _ _ ({ dst := some 45, op := .load _ _, type := _, pos := _, after := _, guard := _ } :: _) _ _
           refine wpList_load_row rfl 34 _ rfl w.heap.size rfl 34 (turnN f x).cs.toArray (0, 0) _ hA Try.underlying34 rfl (by rw [List.size_toArray, Nd.cs_length]; kernel_rfl) ?_)
        | (with_reducible show wpList _ _ _ ({ dst := none, op := .store 34 _ _, type := _, pos := _, after := _, guard := _ } :: _) _ _
           refine wpList_store_row rfl 34 _ _ rfl (w.heap.size + 1) (turnN f x).cs.toArray rfl rfl 34 Nd.zero.cs.toArray hZ (by kernel_rfl) rfl hone ?_)
        | fail)
      exact bodyPost_ret (results_row1 Try.results26 _ _ (w.heap.size + 1) 34 (turnN f x).cs.toArray (0, 0) _ rfl (At.row hZ _) Try.underlying34 rfl (by rw [List.size_toArray, Nd.cs_length]; kernel_rfl)) rfl ⟨rfl, below_row hB (Nat.le_succ _) _⟩
    refine AllReadyH.cons (o := ⟨some 31, _, _, _, _, _⟩) rfl (fun K hK => ?_) AllReadyH.nil
    · go_simp
      refine hK.out _ _ ?_ (fun hHeld => ?_)
      · exact ⟨intRow_at hG hka2, intRow_at hG hkb2⟩
      clear hK K
      try simp only [Act.put, List.setIfInBounds_toArray, List.set_cons_zero, List.set_cons_succ]
      refine wpAnyH_take (i := 8) (oi := ⟨some 32, _, _, _, _, _⟩) (v := ?_) rfl (by kernel_rfl) (by kernel_rfl) (by kernel_rfl) (fun _ _ _ h => h) (Or.inl ⟨by rfl, ?_⟩) (by exact hHeld) ?_
      rotate_left
      · (intro w hSw; (try dsimp only at hSw); go_simp; try (with_reducible rfl))
      simp only [Act.put, List.setIfInBounds_toArray, List.set_cons_zero, List.set_cons_succ]
      refine wpAnyH_take (i := 9) (oi := ⟨some 33, _, _, _, _, _⟩) (v := ?_) rfl (by kernel_rfl) (by kernel_rfl) (by kernel_rfl) (fun _ _ _ h => h) (Or.inl ⟨by rfl, ?_⟩) (by exact hHeld) ?_
      rotate_left
      · (intro w hSw; (try dsimp only at hSw); obtain ⟨s1, s2⟩ := hSw; go_simp; try (with_reducible rfl))
      simp only [Act.put, List.setIfInBounds_toArray, List.set_cons_zero, List.set_cons_succ]
      refine wpAnyH_ready (rs := [2]) (by kernel_rfl) (by simp) ?_
      refine AllReadyH.cons (o := ⟨some 26, _, _, _, _, _⟩) rfl (fun K hK => ?_) AllReadyH.nil
      go_simp
      refine hK.out _ _ ?_ (fun hHeld => ?_)
      · exact ⟨intRow_at hG hka2, intRow_at hG hkb2⟩
      clear hK K
      try simp only [Act.put, List.setIfInBounds_toArray, List.set_cons_zero, List.set_cons_succ]
      refine wpAnyH_take (i := 3) (oi := ⟨some 27, _, _, _, _, _⟩) (v := ?_) rfl (by kernel_rfl) (by kernel_rfl) (by kernel_rfl) (fun _ _ _ h => h) (Or.inl ⟨by rfl, ?_⟩) (by exact hHeld) ?_
      rotate_left
      · (intro w hSw; (try dsimp only at hSw); go_simp; try (with_reducible rfl))
      simp only [Act.put, List.setIfInBounds_toArray, List.set_cons_zero, List.set_cons_succ]
      refine wpAnyH_take (i := 4) (oi := ⟨some 28, _, _, _, _, _⟩) (v := ?_) rfl (by kernel_rfl) (by kernel_rfl) (by kernel_rfl) (fun _ _ _ h => h) (Or.inl ⟨by rfl, ?_⟩) (by exact hHeld) ?_
      rotate_left
      · (intro w hSw; (try dsimp only at hSw); obtain ⟨s1, s2⟩ := hSw; go_simp; try (with_reducible rfl))
      simp only [Act.put, List.setIfInBounds_toArray, List.set_cons_zero, List.set_cons_succ]
      refine wpAnyH_take (i := 10) (oi := ⟨some 34, _, _, _, _, _⟩) (v := ?_) rfl (by kernel_rfl) (by kernel_rfl) (by kernel_rfl) (fun _ _ _ h => h) (Or.inl ⟨by rfl, ?_⟩) (by exact hHeld) ?_
      rotate_left
      · (intro w hSw; (try dsimp only at hSw); go_simp; try (with_reducible rfl))
      simp only [Act.put, List.setIfInBounds_toArray, List.set_cons_zero, List.set_cons_succ]
      refine wpAnyH_ready (rs := [11]) (by kernel_rfl) (by simp) ?_
      refine AllReadyH.cons (o := ⟨none, _, _, _, _, _⟩) rfl (fun K hK => ?_) AllReadyH.nil
      go_simp
      obtain ⟨we, hwe⟩ : ∃ we, we = wd.setCell ⟨w.heap.size, 5, none⟩ (.int .i64 (f ka)) := ⟨_, rfl⟩
      have hA := hA.set 5 (.int .i64 (f ka))
      have hZ := hZ.other (p := ⟨w.heap.size, 5, none⟩) (ne_succ' w.heap.size) (.int .i64 (f ka))
      have hG := hG.other (p := ⟨w.heap.size, 5, none⟩) (by dsimp only; omega) (.int .i64 (f ka))
      have hB := Below.setCell hB (p := ⟨w.heap.size, 5, none⟩) (Nat.le_refl _) (.int .i64 (f ka))
      rw [← hwe] at hA hZ hG hB
      rw [← hwe]
      clear hwe
      have q6 : we.cell? ⟨w.heap.size, 6, none⟩ = some (.int .i64 kb) := (At.cell hA 6).trans HQb2.out
      have f6 := hA.free 6
      refine hK.out _ _ ?_ (fun hHeld => ?_)
      · exact ⟨intRow_at hG hka2, intRow_at hG hkb2⟩
      clear hK K
      try simp only [Act.put, List.setIfInBounds_toArray, List.set_cons_zero, List.set_cons_succ]
      refine wpAnyH_take (i := 12) (oi := ⟨some 35, _, _, _, _, _⟩) (v := ?_) rfl (by kernel_rfl) (by kernel_rfl) (by kernel_rfl) (fun _ _ _ h => h) (Or.inl ⟨by rfl, ?_⟩) (by exact hHeld) ?_
      rotate_left
      · (intro w hSw; (try dsimp only at hSw); go_simp; try (with_reducible rfl))
      simp only [Act.put, List.setIfInBounds_toArray, List.set_cons_zero, List.set_cons_succ]
      refine wpAnyH_ready (rs := [13]) (by kernel_rfl) (by simp) ?_
      refine AllReadyH.cons (o := ⟨none, _, _, _, _, _⟩) rfl (fun K hK => ?_) AllReadyH.nil
      go_simp
      obtain ⟨wf, hwf⟩ : ∃ wf, wf = we.setCell ⟨w.heap.size, 6, none⟩ (.int .i64 (f kb)) := ⟨_, rfl⟩
      have hA := hA.set 6 (.int .i64 (f kb))
      have hZ := hZ.other (p := ⟨w.heap.size, 6, none⟩) (ne_succ' w.heap.size) (.int .i64 (f kb))
      have hG := hG.other (p := ⟨w.heap.size, 6, none⟩) (by dsimp only; omega) (.int .i64 (f kb))
      have hB := Below.setCell hB (p := ⟨w.heap.size, 6, none⟩) (Nat.le_refl _) (.int .i64 (f kb))
      rw [← hwf] at hA hZ hG hB
      rw [← hwf]
      clear hwf
      refine hK.out _ _ ?_ (fun hHeld => ?_)
      · exact ⟨intRow_at hG hka2, intRow_at hG hkb2⟩
      clear hK K
      try simp only [Act.put, List.setIfInBounds_toArray, List.set_cons_zero, List.set_cons_succ]
      refine wpAnyH_done (by kernel_rfl) ?_ _
      refine NoPanic.normal ?_
      have hA : At wf w.heap.size 34 (turnN f x).cs.toArray := by rw [HTn.out]; exact hA
      go_wp2_with (first
        | (with_reducible show wpList _ _ _ ({ dst := some 45, op := .load _ _, type := _, pos := _, after := _, guard := _ } :: _) _ _
           refine wpList_load_row rfl 34 _ rfl w.heap.size rfl 34 (turnN f x).cs.toArray (0, 0) _ hA Try.underlying34 rfl (by rw [List.size_toArray, Nd.cs_length]; kernel_rfl) ?_)
        | (with_reducible show wpList _ _ _ ({ dst := none, op := .store 34 _ _, type := _, pos := _, after := _, guard := _ } :: _) _ _
           refine wpList_store_row rfl 34 _ _ rfl (w.heap.size + 1) (turnN f x).cs.toArray rfl rfl 34 Nd.zero.cs.toArray hZ (by kernel_rfl) rfl hone ?_)
        | fail)
      exact bodyPost_ret (results_row1 Try.results26 _ _ (w.heap.size + 1) 34 (turnN f x).cs.toArray (0, 0) _ rfl (At.row hZ _) Try.underlying34 rfl (by rw [List.size_toArray, Nd.cs_length]; kernel_rfl)) rfl ⟨rfl, below_row hB (Nat.le_succ _) _⟩
  by_cases hk6 : x.kind = 6
  · have HKd := Lib.hid hk6
    rw [hk6] at hc
    clear hk6
    have hab := HX.out.2.2.1 (by have := HKd.out; omega)
    obtain ⟨ka, hka⟩ : ∃ q : Nat, x.a = (q : Int) := ⟨x.a.toNat, by omega⟩
    have hka0 : (0 : Int) ≤ (ka : Int) := by omega
    have hka1 : (ka : Int) < (n : Int) := by omega
    have hka2 : ka < n := by omega
    have q5 := (Nd.cells HA.out).2.2.2.2.2.1
    have f5 := HA.out.free 5
    rw [hka] at q5
    have qk := intRow_at HG.out hka2
    change ((w.alloc (Obj.cells x.cs.toArray 34)).alloc (Obj.cells #[.int .i64 0, .int .u64 0, .int .u64 0, .int .u64 0, .int .u64 0, .int .i64 0, .int .i64 0, .bool false] 34)).cell? _ = _ at q5 qk
    change ((w.alloc (Obj.cells x.cs.toArray 34)).alloc (Obj.cells #[.int .i64 0, .int .u64 0, .int .u64 0, .int .u64 0, .int .u64 0, .int .i64 0, .int .i64 0, .bool false] 34)).frozen? _ = _ at f5
    have HTn : Hid ((turnN f x).cs.toArray = x.cs.toArray.setIfInBounds 5 (.int .i64 (f ka))) := Lib.hid (by
      unfold turnN
      rw [if_neg (by have := HKd.out; omega), if_neg (by have := HKd.out; omega), if_pos (by have := HKd.out; omega), hka, Int.toNat_natCast]
      rfl)
    clear hab hka
    have HA6 : Hid (At ((w.alloc (.cells (x.cs.toArray.setIfInBounds 5 (.int .i64 (f ka))) 34)).alloc (.cells #[.int .i64 0, .int .u64 0, .int .u64 0, .int .u64 0, .int .u64 0, .int .i64 0, .int .i64 0, .bool false] 34)) w.heap.size 34 (turnN f x).cs.toArray) := Lib.hid (by rw [HTn.out]; exact (At.new w _ _).alloc _)
    have HZ6 : Hid (At ((w.alloc (.cells (x.cs.toArray.setIfInBounds 5 (.int .i64 (f ka))) 34)).alloc (.cells #[.int .i64 0, .int .u64 0, .int .u64 0, .int .u64 0, .int .u64 0, .int .i64 0, .int .i64 0, .bool false] 34)) (w.heap.size + 1) 34 Nd.zero.cs.toArray) := Lib.hid (by
      have q := At.new (w.alloc (.cells (x.cs.toArray.setIfInBounds 5 (.int .i64 (f ka))) 34)) 34 #[.int .i64 0, .int .u64 0, .int .u64 0, .int .u64 0, .int .u64 0, .int .i64 0, .int .i64 0, .bool false]
      rw [World.size_alloc] at q
      exact q)
    have HB6 : Hid (Below w.heap.size w ((w.alloc (.cells (x.cs.toArray.setIfInBounds 5 (.int .i64 (f ka))) 34)).alloc (.cells #[.int .i64 0, .int .u64 0, .int .u64 0, .int .u64 0, .int .u64 0, .int .i64 0, .int .i64 0, .bool false] 34))) := Lib.hid (((Below.refl _ _).alloc (Nat.le_refl _) _).alloc (by simp) _)
    go_enter Try.func26, Try.ntmps26
    go_wp2_with (first
      | (with_reducible show wpList _ _ _ ({ dst := some 45, op := .load _ _, type := _, pos := _, after := _, guard := _ } :: _) _ _
         refine wpList_load_row rfl 34 _ rfl w.heap.size rfl 34 (turnN f x).cs.toArray (0, 0) _ HA6.out Try.underlying34 rfl (by rw [List.size_toArray, Nd.cs_length]; kernel_rfl) ?_)
      | (with_reducible show wpList _ _ _ ({ dst := none, op := .store 34 _ _, type := _, pos := _, after := _, guard := _ } :: _) _ _
         refine wpList_store_row rfl 34 _ _ rfl (w.heap.size + 1) (turnN f x).cs.toArray rfl rfl 34 Nd.zero.cs.toArray HZ6.out (by kernel_rfl) rfl hone ?_)
      | fail)
    exact bodyPost_ret (results_row1 Try.results26 _ _ (w.heap.size + 1) 34 (turnN f x).cs.toArray (0, 0) _ rfl (At.row HZ6.out _) Try.underlying34 rfl (by rw [List.size_toArray, Nd.cs_length]; kernel_rfl)) rfl ⟨rfl, below_row HB6.out (Nat.le_succ _) _⟩
  by_cases hk7 : x.kind = 7
  · have HKd := Lib.hid hk7
    rw [hk7] at hc
    clear hk7
    have hab := HX.out.2.2.1 (by have := HKd.out; omega)
    obtain ⟨ka, hka⟩ : ∃ q : Nat, x.a = (q : Int) := ⟨x.a.toNat, by omega⟩
    have hka0 : (0 : Int) ≤ (ka : Int) := by omega
    have hka1 : (ka : Int) < (n : Int) := by omega
    have hka2 : ka < n := by omega
    have q5 := (Nd.cells HA.out).2.2.2.2.2.1
    have f5 := HA.out.free 5
    rw [hka] at q5
    have qk := intRow_at HG.out hka2
    change ((w.alloc (Obj.cells x.cs.toArray 34)).alloc (Obj.cells #[.int .i64 0, .int .u64 0, .int .u64 0, .int .u64 0, .int .u64 0, .int .i64 0, .int .i64 0, .bool false] 34)).cell? _ = _ at q5 qk
    change ((w.alloc (Obj.cells x.cs.toArray 34)).alloc (Obj.cells #[.int .i64 0, .int .u64 0, .int .u64 0, .int .u64 0, .int .u64 0, .int .i64 0, .int .i64 0, .bool false] 34)).frozen? _ = _ at f5
    have HTn : Hid ((turnN f x).cs.toArray = x.cs.toArray.setIfInBounds 5 (.int .i64 (f ka))) := Lib.hid (by
      unfold turnN
      rw [if_neg (by have := HKd.out; omega), if_neg (by have := HKd.out; omega), if_pos (by have := HKd.out; omega), hka, Int.toNat_natCast]
      rfl)
    clear hab hka
    have HA6 : Hid (At ((w.alloc (.cells (x.cs.toArray.setIfInBounds 5 (.int .i64 (f ka))) 34)).alloc (.cells #[.int .i64 0, .int .u64 0, .int .u64 0, .int .u64 0, .int .u64 0, .int .i64 0, .int .i64 0, .bool false] 34)) w.heap.size 34 (turnN f x).cs.toArray) := Lib.hid (by rw [HTn.out]; exact (At.new w _ _).alloc _)
    have HZ6 : Hid (At ((w.alloc (.cells (x.cs.toArray.setIfInBounds 5 (.int .i64 (f ka))) 34)).alloc (.cells #[.int .i64 0, .int .u64 0, .int .u64 0, .int .u64 0, .int .u64 0, .int .i64 0, .int .i64 0, .bool false] 34)) (w.heap.size + 1) 34 Nd.zero.cs.toArray) := Lib.hid (by
      have q := At.new (w.alloc (.cells (x.cs.toArray.setIfInBounds 5 (.int .i64 (f ka))) 34)) 34 #[.int .i64 0, .int .u64 0, .int .u64 0, .int .u64 0, .int .u64 0, .int .i64 0, .int .i64 0, .bool false]
      rw [World.size_alloc] at q
      exact q)
    have HB6 : Hid (Below w.heap.size w ((w.alloc (.cells (x.cs.toArray.setIfInBounds 5 (.int .i64 (f ka))) 34)).alloc (.cells #[.int .i64 0, .int .u64 0, .int .u64 0, .int .u64 0, .int .u64 0, .int .i64 0, .int .i64 0, .bool false] 34))) := Lib.hid (((Below.refl _ _).alloc (Nat.le_refl _) _).alloc (by simp) _)
    go_enter Try.func26, Try.ntmps26
    go_wp2_with (first
      | (with_reducible show wpList _ _ _ ({ dst := some 45, op := .load _ _, type := _, pos := _, after := _, guard := _ } :: _) _ _
         refine wpList_load_row rfl 34 _ rfl w.heap.size rfl 34 (turnN f x).cs.toArray (0, 0) _ HA6.out Try.underlying34 rfl (by rw [List.size_toArray, Nd.cs_length]; kernel_rfl) ?_)
      | (with_reducible show wpList _ _ _ ({ dst := none, op := .store 34 _ _, type := _, pos := _, after := _, guard := _ } :: _) _ _
         refine wpList_store_row rfl 34 _ _ rfl (w.heap.size + 1) (turnN f x).cs.toArray rfl rfl 34 Nd.zero.cs.toArray HZ6.out (by kernel_rfl) rfl hone ?_)
      | fail)
    exact bodyPost_ret (results_row1 Try.results26 _ _ (w.heap.size + 1) 34 (turnN f x).cs.toArray (0, 0) _ rfl (At.row HZ6.out _) Try.underlying34 rfl (by rw [List.size_toArray, Nd.cs_length]; kernel_rfl)) rfl ⟨rfl, below_row HB6.out (Nat.le_succ _) _⟩
  have hb3 := (int_ne hk3).1
  have h3 := Lib.hid hk3
  have hb4 := (int_ne hk4).1
  have h4 := Lib.hid hk4
  have hb5 := (int_ne hk5).1
  have h5 := Lib.hid hk5
  have hb6 := (int_ne hk6).1
  have h6 := Lib.hid hk6
  have hb7 := (int_ne hk7).1
  have h7 := Lib.hid hk7
  clear hk3 hk4 hk5 hk6 hk7
  have HTn : Hid (turnN f x = x) := Lib.hid (by unfold turnN; rw [if_neg h3.out, if_neg (by have := h4.out; have := h5.out; omega), if_neg (by have := h6.out; have := h7.out; omega)])
  have HA2 : Hid (At ((w.alloc (Obj.cells x.cs.toArray 34)).alloc (Obj.cells #[.int .i64 0, .int .u64 0, .int .u64 0, .int .u64 0, .int .u64 0, .int .i64 0, .int .i64 0, .bool false] 34)) w.heap.size 34 (turnN f x).cs.toArray) := Lib.hid (by rw [HTn.out]; exact HA.out)
  go_enter Try.func26, Try.ntmps26
  go_wp2_with (first
    | (with_reducible show wpList _ _ _ ({ dst := some 45, op := .load _ _, type := _, pos := _, after := _, guard := _ } :: _) _ _
       refine wpList_load_row rfl 34 _ rfl w.heap.size rfl 34 (turnN f x).cs.toArray (0, 0) _ HA2.out Try.underlying34 rfl (by rw [List.size_toArray, Nd.cs_length]; kernel_rfl) ?_)
    | (with_reducible show wpList _ _ _ ({ dst := none, op := .store 34 _ _, type := _, pos := _, after := _, guard := _ } :: _) _ _
       refine wpList_store_row rfl 34 _ _ rfl (w.heap.size + 1) (turnN f x).cs.toArray rfl rfl 34 Nd.zero.cs.toArray HZ.out (by kernel_rfl) rfl hone ?_)
    | fail)
  exact bodyPost_ret (results_row1 Try.results26 _ _ (w.heap.size + 1) 34 (turnN f x).cs.toArray (0, 0) _ rfl (At.row HZ.out _) Try.underlying34 rfl (by rw [List.size_toArray, Nd.cs_length]; kernel_rfl)) rfl ⟨rfl, below_row HB.out (Nat.le_succ _) _⟩

end Go.Proofs.Ytoicbahkoejhjaa
