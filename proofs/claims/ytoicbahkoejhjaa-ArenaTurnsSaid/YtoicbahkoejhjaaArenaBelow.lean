/- below: which nodes are below one. -/
import Derived.Test.YtoicbahkoejhjaaArenaIs
import Derived.Test.YtoicbahkoejhjaaBelowMath
import Derived.Test.YtoicbahkoejhjaaBlank
namespace Go.Proofs.Ytoicbahkoejhjaa
open Go.RowKit Go.Maps
set_option linter.unusedVariables false
set_option linter.unusedSimpArgs false

theorem make_bools (n : Nat) (hn : n < 1000) (W : World) : (Instr.makeSlice 50 (.int .i64 ((n : Int) + 1)) (.int .i64 ((n : Int) + 1))).run Try.prog W = .ok (.slice (some ⟨W.heap.size, 0, none⟩) (n + 1) (n + 1)) (W.alloc (.cells (boolRow (fun _ => false) (n + 1)) 4)) := by
  have h := make_row (n + 1) (by omega) W
  rw [show ((n + 1 : Nat) : Int) = (n : Int) + 1 by omega] at h
  exact h
theorem boolRow_at {w : World} {g n : Nat} {t : TypeId} {f : Nat → Bool} (h : At w g t (boolRow f n)) {j : Nat} (hj : j < n) : w.cell? ⟨g, j, none⟩ = some (.bool (f j)) := by
  rw [h.cell]; exact arr_get _ _ _ hj
/-- What is marked behind one more node, kind by kind. -/
theorem mark_two {ns : List Nd} {id t : Nat} {x : Nd} {j : Nat} (hj : id - t = j) (hx : ndAt ns j = x) (hm : markTo ns id t j = true) (hk : x.kind = 3 ∨ x.kind = 4 ∨ x.kind = 5) {ka kb : Nat} (ha : x.a = ka) (hb : x.b = kb) (k : Nat) :
    (if k = kb then true else if k = ka then true else markTo ns id t k) = markTo ns id (t + 1) k := by
  subst hj
  rw [mark_yes hm, hx, show kidB x k = (decide ((ka : Int) = (k : Int)) || decide ((kb : Int) = (k : Int))) by unfold kidB; rw [if_pos hk, ha, hb]]
  by_cases e : k = kb
  · subst e; simp
  · by_cases d : k = ka
    · subst d; simp
    · have e' : ¬ ((kb : Int) = (k : Int)) := by omega
      have d' : ¬ ((ka : Int) = (k : Int)) := by omega
      rw [if_neg e, if_neg d, decide_eq_false e', decide_eq_false d', Bool.or_false, Bool.or_false]
theorem mark_one {ns : List Nd} {id t : Nat} {x : Nd} {j : Nat} (hj : id - t = j) (hx : ndAt ns j = x) (hm : markTo ns id t j = true) (hk : x.kind = 6 ∨ x.kind = 7) {ka : Nat} (ha : x.a = ka) (k : Nat) :
    (if k = ka then true else markTo ns id t k) = markTo ns id (t + 1) k := by
  subst hj
  rw [mark_yes hm, hx, show kidB x k = decide ((ka : Int) = (k : Int)) by unfold kidB; rw [if_neg (by omega), if_pos hk, ha]]
  by_cases d : k = ka
  · subst d; simp
  · have d' : ¬ ((ka : Int) = (k : Int)) := by omega
    rw [if_neg d, decide_eq_false d', Bool.or_false]
theorem mark_none {ns : List Nd} {id t : Nat} {x : Nd} {j : Nat} (hj : id - t = j) (hx : ndAt ns j = x) (h3 : x.kind ≠ 3) (h4 : x.kind ≠ 4) (h5 : x.kind ≠ 5) (h6 : x.kind ≠ 6) (h7 : x.kind ≠ 7) (k : Nat) :
    markTo ns id t k = markTo ns id (t + 1) k := by
  subst hj
  show _ = (markTo ns id t k || (markTo ns id t (id - t) && kidB (ndAt ns (id - t)) k))
  rw [hx]
  unfold kidB
  rw [if_neg (by omega), if_neg (by omega), Bool.and_false, Bool.or_false]

set_option maxRecDepth 100000 in
set_option maxHeartbeats 16000000 in
theorem aBelow {w : World} {a : Value} {ns : List Nd} {F : Nat → Prop} (id : Nat) (h : AA w a ns F) (hid : id < ns.length) (hn : ns.length ≤ 1000) :
    Calls Try.prog 25 #[a, .int .i64 id] w fun e w' => ∃ gb, e = .returned (.slice (some ⟨gb, 0, none⟩) (id + 1) (id + 1)) ∧ At w' gb 4 (boolRow (fun k => belowS ns k (id + 1) id) (id + 1)) ∧ w.heap.size ≤ gb ∧ Below w.heap.size w w' := by
  obtain ⟨g, m, v, h⟩ := h
  obtain rfl := h.ptr
  obtain ⟨A, c, rfl⟩ := h.row.len
  have HT := Lib.hid h
  have hok : ∀ j, j < ns.length → NdOk (ndAt ns j) j := fun j hj => h.fine.ok j hj
  have HOk := Lib.hid hok
  have HEnd := Lib.hid (mark_below hok hid)
  have hmk := make_bools id (by omega)
  have hi0 : (0 : Int) ≤ (id : Int) := by omega
  have hi1 : (id : Int) < (id : Int) + 1 := by omega
  have hD0 : At (w.alloc (.cells (boolRow (fun _ => false) (id + 1)) 4)) w.heap.size 4 (boolRow (fun _ => false) (id + 1)) := At.new _ _ _
  have d0 := boolRow_at hD0 (Nat.lt_succ_self id)
  have d1 := hD0.free id
  obtain ⟨w1, hw1⟩ : ∃ w1, w1 = w.alloc (.cells ((boolRow (fun _ => false) (id + 1)).setIfInBounds id (.bool true)) 4) := ⟨_, rfl⟩
  have HW1 := Lib.hid hw1
  have HD1 : Hid (At w1 w.heap.size 4 (boolRow (markTo ns id 0) (id + 1))) := Lib.hid (by
    have e : boolRow (markTo ns id 0) (id + 1) = boolRow (fun j => if j = id then true else false) (id + 1) := boolRow_congr (fun j _ => by show decide (j = id) = _; by_cases e : j = id <;> simp [e])
    rw [e, hw1, ← boolRow_set]
    exact At.new _ _ _)
  have HB1 : Hid (Below w.heap.size w w1) := Lib.hid (by rw [hw1]; exact (Below.refl _ _).alloc (Nat.le_refl _) _)
  clear h hok hw1
  have HD0 := Lib.hid hD0
  clear hD0
  go_enter Try.func25, Try.ntmps25
  go_wp2_with fail
  rw [← HW1.out]
  clear hmk d0 d1
  go_loopw [6] (fun i wr => ∃ (t : Nat) (z : Int), t ≤ id + 1 ∧ z = (id : Int) - t ∧ i = .int .i64 z ∧ Hid (At wr w.heap.size 4 (boolRow (markTo ns id t) (id + 1))) ∧ Hid (Below w.heap.size w wr)) (fun i _ => (intOf i + 1).toNat)
  case atStart => exact ⟨0, id, Nat.zero_le _, by omega, rfl, HD1, HB1⟩
  case round =>
    clear HD1 HB1 HD0
    obtain ⟨t, z, ht, hz, rfl, HD, HB⟩ := hrel
    by_cases hzl : t ≤ id
    · obtain ⟨j, rfl⟩ : ∃ j : Nat, z = (j : Int) := ⟨z.toNat, by omega⟩
      have hjt : id - t = j := by omega
      have hj0 : (0 : Int) ≤ (j : Int) := by omega
      have hj1 : (j : Int) < (id : Int) + 1 := by omega
      have hjn : j < ns.length := by omega
      have hjn1 : (j : Int) < (ns.length : Int) := by omega
      have HJ := Lib.hid hjt
      have HT1 := Lib.hid (HT.out.next HB.out)
      have hs1 := HB.out.size
      have c0 := HT1.out.box.cell 0
      have dj := boolRow_at HD.out (show j < id + 1 by omega)
      have HZ := Lib.hid hz
      clear hjt hz
      cases hm : markTo ns id t j with
      | false =>
        rw [hm] at dj
        have HM : Hid (boolRow (markTo ns id t) (id + 1) = boolRow (markTo ns id (t + 1)) (id + 1)) := Lib.hid (boolRow_congr (fun k _ => (mark_no (by rw [HJ.out]; exact hm) k).symm))
        clear hm
        go_wp2_with fail
        refine ⟨⟨t + 1, _, by have := HZ.out; omega, ?_, rfl, Lib.hid (by rw [← HM.out]; exact HD.out), HB⟩, by simp [intOf] <;> omega⟩
        have := HZ.out; omega
      | true =>
        rw [hm] at dj
        have HMj := Lib.hid hm
        obtain ⟨_, _, e1, _, h3⟩ := HT1.out.row.nds (by omega)
        injection e1 with e1 e7 e3
        subst e1 e3
        clear e7
        obtain ⟨b, off, rfl, hb, hr⟩ := h3 (by omega)
        have HR := Lib.hid (hr j hjn)
        have HOj := Lib.hid (HOk.out j hjn)
        obtain ⟨x, hx⟩ : ∃ y, ndAt ns j = y := ⟨_, rfl⟩
        rw [hx] at HR HOj
        have HX := Lib.hid hx
        have hone := Nd.one x
        have HXb := Lib.hid (boxN_at wr x)
        have HBb := Lib.hid (HB.out.trans ((boxN_next wr x).mono HB.out.size))
        have HDb := Lib.hid (HD.out.step (boxN_next wr x) rfl)
        have ck := (Nd.cells HXb.out).1
        have hne : w.heap.size < wr.heap.size := HD.out.lt
        clear h3 hr hx hb hm
        by_cases hk3 : x.kind = 3
        · have HKd := Lib.hid hk3
          rw [hk3] at ck
          clear hk3
          have hab := HOj.out.2.1 (by have := HKd.out; omega)
          obtain ⟨ka, hka⟩ : ∃ q : Nat, x.a = (q : Int) := ⟨x.a.toNat, by omega⟩
          obtain ⟨kb, hkb⟩ : ∃ q : Nat, x.b = (q : Int) := ⟨x.b.toNat, by omega⟩
          have hka0 : (0 : Int) ≤ (ka : Int) := by omega
          have hkb0 : (0 : Int) ≤ (kb : Int) := by omega
          have hka1 : (ka : Int) < (id : Int) + 1 := by omega
          have hkb1 : (kb : Int) < (id : Int) + 1 := by omega
          have hka2 : ka < id + 1 := by omega
          have hkb2 : kb < id + 1 := by omega
          have HQa : Hid (x.cs.toArray[5]? = some (.int .i64 ka)) := Lib.hid (by show some (Value.int .i64 x.a) = _; rw [hka])
          have HQb : Hid (x.cs.toArray[6]? = some (.int .i64 kb)) := Lib.hid (by show some (Value.int .i64 x.b) = _; rw [hkb])
          have HM : Hid (boolRow (fun k => if k = kb then true else if k = ka then true else markTo ns id t k) (id + 1) = boolRow (markTo ns id (t + 1)) (id + 1)) := Lib.hid (boolRow_congr (fun k _ => mark_two HJ.out HX.out HMj.out (by have := HKd.out; omega) hka hkb k))
          clear hab hka hkb
          go_wp2_with (first
            | (with_reducible show wpList _ _ _ ({ dst := some 30, op := .load _ _, type := _, pos := _, after := _, guard := _ } :: _) _ _
               refine wpList_load_mid rfl 34 _ rfl b (off + j * 8) rfl x.cs _ HR.out Try.underlying34 rfl (by rw [Nd.cs_length]; kernel_rfl) ?_)
            | (with_reducible show wpList _ _ _ ({ dst := none, op := .store 34 _ _, type := _, pos := _, after := _, guard := _ } :: _) _ _
               refine wpList_store_row rfl 34 _ _ rfl wr.heap.size x.cs.toArray rfl rfl 34 Nd.zero.cs.toArray (At.new _ _ _) (by kernel_rfl) rfl hone ?_
               first | change wpList _ _ _ _ _ (boxN wr x) | change Exit.then _ _ _ _ (boxN wr x))
            | fail)
          have hD := HDb.out
          have hX := HXb.out
          have hB := HBb.out
          obtain ⟨w0, hw0⟩ : ∃ w0, w0 = boxN wr x := ⟨_, rfl⟩
          rw [← hw0] at hD hX hB
          rw [← hw0]
          clear hw0 ck dj c0
          refine wp_region_noPanic ?_
          refine wp_region_held_drew (S := (fun w' => w'.cell? ⟨wr.heap.size, 5, none⟩ = some (.int .i64 ka) ∧ w'.cell? ⟨wr.heap.size, 6, none⟩ = some (.int .i64 kb))) (by kernel_rfl) (by exact ⟨(At.cell hX 5).trans HQa.out, (At.cell hX 6).trans HQb.out⟩) (fun hHeld => ?_)
          have hD := hD.drew
          have hX := hX.drew
          have hB := below_drewN' hB 1
          obtain ⟨wc, hwc⟩ : ∃ wc, wc = w0.drew := ⟨_, rfl⟩
          change At w0.drew _ _ _ at hD
          change Below _ _ w0.drew at hB
          rw [← hwc] at hD hX hB
          rw [← hwc]
          try rw [← hwc] at hHeld
          clear hwc
          have dq := boolRow_at hD hka2
          have fq := hD.free ka
          refine wpAnyH_take (i := 0) (oi := ⟨some 37, _, _, _, _, _⟩) (v := ?_) rfl (by kernel_rfl) (by kernel_rfl) (by kernel_rfl) (fun _ _ _ h => h) (Or.inl ⟨by rfl, ?_⟩) (by exact hHeld) ?_
          rotate_left
          · (intro w hSw; (try dsimp only at hSw); go_simp; try (with_reducible rfl))
          simp only [Act.put, List.setIfInBounds_toArray, List.set_cons_zero, List.set_cons_succ]
          refine wpAnyH_take (i := 1) (oi := ⟨some 38, _, _, _, _, _⟩) (v := ?_) rfl (by kernel_rfl) (by kernel_rfl) (by kernel_rfl) (fun _ _ _ h => h) (Or.inl ⟨by rfl, ?_⟩) (by exact hHeld) ?_
          rotate_left
          · (intro w hSw; (try dsimp only at hSw); go_simp; try (with_reducible rfl))
          simp only [Act.put, List.setIfInBounds_toArray, List.set_cons_zero, List.set_cons_succ]
          refine wpAnyH_take (i := 2) (oi := ⟨some 39, _, _, _, _, _⟩) (v := ?_) rfl (by kernel_rfl) (by kernel_rfl) (by kernel_rfl) (fun _ _ _ h => h) (Or.inl ⟨by rfl, ?_⟩) (by exact hHeld) ?_
          rotate_left
          · (intro w hSw; (try dsimp only at hSw); obtain ⟨s1, s2⟩ := hSw; go_simp; try (with_reducible rfl))
          simp only [Act.put, List.setIfInBounds_toArray, List.set_cons_zero, List.set_cons_succ]
          refine wpAnyH_take (i := 3) (oi := ⟨some 40, _, _, _, _, _⟩) (v := ?_) rfl (by kernel_rfl) (by kernel_rfl) (by kernel_rfl) (fun _ _ _ h => h) (Or.inl ⟨by rfl, ?_⟩) (by exact hHeld) ?_
          rotate_left
          · (intro w hSw; (try dsimp only at hSw); go_simp; try (with_reducible rfl))
          simp only [Act.put, List.setIfInBounds_toArray, List.set_cons_zero, List.set_cons_succ]
          refine wpAnyH_take (i := 4) (oi := ⟨some 41, _, _, _, _, _⟩) (v := ?_) rfl (by kernel_rfl) (by kernel_rfl) (by kernel_rfl) (fun _ _ _ h => h) (Or.inl ⟨by rfl, ?_⟩) (by exact hHeld) ?_
          rotate_left
          · (intro w hSw; (try dsimp only at hSw); go_simp; try (with_reducible rfl))
          simp only [Act.put, List.setIfInBounds_toArray, List.set_cons_zero, List.set_cons_succ]
          refine wpAnyH_take (i := 5) (oi := ⟨some 42, _, _, _, _, _⟩) (v := ?_) rfl (by kernel_rfl) (by kernel_rfl) (by kernel_rfl) (fun _ _ _ h => h) (Or.inl ⟨by rfl, ?_⟩) (by exact hHeld) ?_
          rotate_left
          · (intro w hSw; (try dsimp only at hSw); obtain ⟨s1, s2⟩ := hSw; go_simp; try (with_reducible rfl))
          simp only [Act.put, List.setIfInBounds_toArray, List.set_cons_zero, List.set_cons_succ]
          refine wpAnyH_take (i := 6) (oi := ⟨some 43, _, _, _, _, _⟩) (v := ?_) rfl (by kernel_rfl) (by kernel_rfl) (by kernel_rfl) (fun _ _ _ h => h) (Or.inl ⟨by rfl, ?_⟩) (by exact hHeld) ?_
          rotate_left
          · (intro w hSw; (try dsimp only at hSw); go_simp; try (with_reducible rfl))
          simp only [Act.put, List.setIfInBounds_toArray, List.set_cons_zero, List.set_cons_succ]
          refine wpAnyH_ready (rs := [7]) (by kernel_rfl) (by simp) ?_
          refine AllReadyH.cons (o := ⟨none, _, _, _, _, _⟩) rfl (fun K hK => ?_) AllReadyH.nil
          go_simp
          obtain ⟨wq, hwq⟩ : ∃ wq, wq = wc.setCell ⟨w.heap.size, ka, none⟩ (.bool true) := ⟨_, rfl⟩
          have hD := hD.set ka (.bool true)
          rw [boolRow_set] at hD
          have hX := hX.other (p := ⟨w.heap.size, ka, none⟩) (by dsimp only; omega) (.bool true)
          have hB := Below.setCell hB (p := ⟨w.heap.size, ka, none⟩) (Nat.le_refl _) (.bool true)
          rw [← hwq] at hD hX hB
          rw [← hwq]
          clear hwq
          have dq := boolRow_at hD hkb2
          have fq := hD.free kb
          refine hK.out _ _ ?_ (fun hHeld => ?_)
          · exact ⟨(At.cell hX 5).trans HQa.out, (At.cell hX 6).trans HQb.out⟩
          clear hK K
          try simp only [Act.put, List.setIfInBounds_toArray, List.set_cons_zero, List.set_cons_succ]
          refine wpAnyH_take (i := 8) (oi := ⟨some 44, _, _, _, _, _⟩) (v := ?_) rfl (by kernel_rfl) (by kernel_rfl) (by kernel_rfl) (fun _ _ _ h => h) (Or.inl ⟨by rfl, ?_⟩) (by exact hHeld) ?_
          rotate_left
          · (intro w hSw; (try dsimp only at hSw); go_simp; try (with_reducible rfl))
          simp only [Act.put, List.setIfInBounds_toArray, List.set_cons_zero, List.set_cons_succ]
          refine wpAnyH_ready (rs := [9]) (by kernel_rfl) (by simp) ?_
          refine AllReadyH.cons (o := ⟨none, _, _, _, _, _⟩) rfl (fun K hK => ?_) AllReadyH.nil
          go_simp
          obtain ⟨wz, hwz⟩ : ∃ wz, wz = wq.setCell ⟨w.heap.size, kb, none⟩ (.bool true) := ⟨_, rfl⟩
          have hD := hD.set kb (.bool true)
          rw [boolRow_set] at hD
          have hX := hX.other (p := ⟨w.heap.size, kb, none⟩) (by dsimp only; omega) (.bool true)
          have hB := Below.setCell hB (p := ⟨w.heap.size, kb, none⟩) (Nat.le_refl _) (.bool true)
          rw [← hwz] at hD hX hB
          rw [← hwz]
          clear hwz
          refine hK.out _ _ ?_ (fun hHeld => ?_)
          · exact ⟨(At.cell hX 5).trans HQa.out, (At.cell hX 6).trans HQb.out⟩
          clear hK K
          try simp only [Act.put, List.setIfInBounds_toArray, List.set_cons_zero, List.set_cons_succ]
          refine wpAnyH_done (by kernel_rfl) ?_ _
          refine NoPanic.normal ?_
          go_wp2_with fail
          refine ⟨⟨t + 1, _, by have := HZ.out; omega, ?_, rfl, Lib.hid (by rw [← HM.out]; exact hD), Lib.hid hB⟩, by simp [intOf] <;> omega⟩
          have := HZ.out; omega
        by_cases hk4 : x.kind = 4
        · have HKd := Lib.hid hk4
          rw [hk4] at ck
          clear hk4
          have hab := HOj.out.2.1 (by have := HKd.out; omega)
          obtain ⟨ka, hka⟩ : ∃ q : Nat, x.a = (q : Int) := ⟨x.a.toNat, by omega⟩
          obtain ⟨kb, hkb⟩ : ∃ q : Nat, x.b = (q : Int) := ⟨x.b.toNat, by omega⟩
          have hka0 : (0 : Int) ≤ (ka : Int) := by omega
          have hkb0 : (0 : Int) ≤ (kb : Int) := by omega
          have hka1 : (ka : Int) < (id : Int) + 1 := by omega
          have hkb1 : (kb : Int) < (id : Int) + 1 := by omega
          have hka2 : ka < id + 1 := by omega
          have hkb2 : kb < id + 1 := by omega
          have HQa : Hid (x.cs.toArray[5]? = some (.int .i64 ka)) := Lib.hid (by show some (Value.int .i64 x.a) = _; rw [hka])
          have HQb : Hid (x.cs.toArray[6]? = some (.int .i64 kb)) := Lib.hid (by show some (Value.int .i64 x.b) = _; rw [hkb])
          have HM : Hid (boolRow (fun k => if k = kb then true else if k = ka then true else markTo ns id t k) (id + 1) = boolRow (markTo ns id (t + 1)) (id + 1)) := Lib.hid (boolRow_congr (fun k _ => mark_two HJ.out HX.out HMj.out (by have := HKd.out; omega) hka hkb k))
          clear hab hka hkb
          go_wp2_with (first
            | (with_reducible show wpList _ _ _ ({ dst := some 30, op := .load _ _, type := _, pos := _, after := _, guard := _ } :: _) _ _
               refine wpList_load_mid rfl 34 _ rfl b (off + j * 8) rfl x.cs _ HR.out Try.underlying34 rfl (by rw [Nd.cs_length]; kernel_rfl) ?_)
            | (with_reducible show wpList _ _ _ ({ dst := none, op := .store 34 _ _, type := _, pos := _, after := _, guard := _ } :: _) _ _
               refine wpList_store_row rfl 34 _ _ rfl wr.heap.size x.cs.toArray rfl rfl 34 Nd.zero.cs.toArray (At.new _ _ _) (by kernel_rfl) rfl hone ?_
               first | change wpList _ _ _ _ _ (boxN wr x) | change Exit.then _ _ _ _ (boxN wr x))
            | fail)
          have hD := HDb.out
          have hX := HXb.out
          have hB := HBb.out
          obtain ⟨w0, hw0⟩ : ∃ w0, w0 = boxN wr x := ⟨_, rfl⟩
          rw [← hw0] at hD hX hB
          rw [← hw0]
          clear hw0 ck dj c0
          refine wp_region_noPanic ?_
          refine wp_region_held_drew (S := (fun w' => w'.cell? ⟨wr.heap.size, 5, none⟩ = some (.int .i64 ka) ∧ w'.cell? ⟨wr.heap.size, 6, none⟩ = some (.int .i64 kb))) (by kernel_rfl) (by exact ⟨(At.cell hX 5).trans HQa.out, (At.cell hX 6).trans HQb.out⟩) (fun hHeld => ?_)
          have hD := hD.drew
          have hX := hX.drew
          have hB := below_drewN' hB 1
          obtain ⟨wc, hwc⟩ : ∃ wc, wc = w0.drew := ⟨_, rfl⟩
          change At w0.drew _ _ _ at hD
          change Below _ _ w0.drew at hB
          rw [← hwc] at hD hX hB
          rw [← hwc]
          try rw [← hwc] at hHeld
          clear hwc
          have dq := boolRow_at hD hka2
          have fq := hD.free ka
          refine wpAnyH_take (i := 0) (oi := ⟨some 37, _, _, _, _, _⟩) (v := ?_) rfl (by kernel_rfl) (by kernel_rfl) (by kernel_rfl) (fun _ _ _ h => h) (Or.inl ⟨by rfl, ?_⟩) (by exact hHeld) ?_
          rotate_left
          · (intro w hSw; (try dsimp only at hSw); go_simp; try (with_reducible rfl))
          simp only [Act.put, List.setIfInBounds_toArray, List.set_cons_zero, List.set_cons_succ]
          refine wpAnyH_take (i := 1) (oi := ⟨some 38, _, _, _, _, _⟩) (v := ?_) rfl (by kernel_rfl) (by kernel_rfl) (by kernel_rfl) (fun _ _ _ h => h) (Or.inl ⟨by rfl, ?_⟩) (by exact hHeld) ?_
          rotate_left
          · (intro w hSw; (try dsimp only at hSw); go_simp; try (with_reducible rfl))
          simp only [Act.put, List.setIfInBounds_toArray, List.set_cons_zero, List.set_cons_succ]
          refine wpAnyH_take (i := 2) (oi := ⟨some 39, _, _, _, _, _⟩) (v := ?_) rfl (by kernel_rfl) (by kernel_rfl) (by kernel_rfl) (fun _ _ _ h => h) (Or.inl ⟨by rfl, ?_⟩) (by exact hHeld) ?_
          rotate_left
          · (intro w hSw; (try dsimp only at hSw); obtain ⟨s1, s2⟩ := hSw; go_simp; try (with_reducible rfl))
          simp only [Act.put, List.setIfInBounds_toArray, List.set_cons_zero, List.set_cons_succ]
          refine wpAnyH_take (i := 3) (oi := ⟨some 40, _, _, _, _, _⟩) (v := ?_) rfl (by kernel_rfl) (by kernel_rfl) (by kernel_rfl) (fun _ _ _ h => h) (Or.inl ⟨by rfl, ?_⟩) (by exact hHeld) ?_
          rotate_left
          · (intro w hSw; (try dsimp only at hSw); go_simp; try (with_reducible rfl))
          simp only [Act.put, List.setIfInBounds_toArray, List.set_cons_zero, List.set_cons_succ]
          refine wpAnyH_take (i := 4) (oi := ⟨some 41, _, _, _, _, _⟩) (v := ?_) rfl (by kernel_rfl) (by kernel_rfl) (by kernel_rfl) (fun _ _ _ h => h) (Or.inl ⟨by rfl, ?_⟩) (by exact hHeld) ?_
          rotate_left
          · (intro w hSw; (try dsimp only at hSw); go_simp; try (with_reducible rfl))
          simp only [Act.put, List.setIfInBounds_toArray, List.set_cons_zero, List.set_cons_succ]
          refine wpAnyH_take (i := 5) (oi := ⟨some 42, _, _, _, _, _⟩) (v := ?_) rfl (by kernel_rfl) (by kernel_rfl) (by kernel_rfl) (fun _ _ _ h => h) (Or.inl ⟨by rfl, ?_⟩) (by exact hHeld) ?_
          rotate_left
          · (intro w hSw; (try dsimp only at hSw); obtain ⟨s1, s2⟩ := hSw; go_simp; try (with_reducible rfl))
          simp only [Act.put, List.setIfInBounds_toArray, List.set_cons_zero, List.set_cons_succ]
          refine wpAnyH_take (i := 6) (oi := ⟨some 43, _, _, _, _, _⟩) (v := ?_) rfl (by kernel_rfl) (by kernel_rfl) (by kernel_rfl) (fun _ _ _ h => h) (Or.inl ⟨by rfl, ?_⟩) (by exact hHeld) ?_
          rotate_left
          · (intro w hSw; (try dsimp only at hSw); go_simp; try (with_reducible rfl))
          simp only [Act.put, List.setIfInBounds_toArray, List.set_cons_zero, List.set_cons_succ]
          refine wpAnyH_ready (rs := [7]) (by kernel_rfl) (by simp) ?_
          refine AllReadyH.cons (o := ⟨none, _, _, _, _, _⟩) rfl (fun K hK => ?_) AllReadyH.nil
          go_simp
          obtain ⟨wq, hwq⟩ : ∃ wq, wq = wc.setCell ⟨w.heap.size, ka, none⟩ (.bool true) := ⟨_, rfl⟩
          have hD := hD.set ka (.bool true)
          rw [boolRow_set] at hD
          have hX := hX.other (p := ⟨w.heap.size, ka, none⟩) (by dsimp only; omega) (.bool true)
          have hB := Below.setCell hB (p := ⟨w.heap.size, ka, none⟩) (Nat.le_refl _) (.bool true)
          rw [← hwq] at hD hX hB
          rw [← hwq]
          clear hwq
          have dq := boolRow_at hD hkb2
          have fq := hD.free kb
          refine hK.out _ _ ?_ (fun hHeld => ?_)
          · exact ⟨(At.cell hX 5).trans HQa.out, (At.cell hX 6).trans HQb.out⟩
          clear hK K
          try simp only [Act.put, List.setIfInBounds_toArray, List.set_cons_zero, List.set_cons_succ]
          refine wpAnyH_take (i := 8) (oi := ⟨some 44, _, _, _, _, _⟩) (v := ?_) rfl (by kernel_rfl) (by kernel_rfl) (by kernel_rfl) (fun _ _ _ h => h) (Or.inl ⟨by rfl, ?_⟩) (by exact hHeld) ?_
          rotate_left
          · (intro w hSw; (try dsimp only at hSw); go_simp; try (with_reducible rfl))
          simp only [Act.put, List.setIfInBounds_toArray, List.set_cons_zero, List.set_cons_succ]
          refine wpAnyH_ready (rs := [9]) (by kernel_rfl) (by simp) ?_
          refine AllReadyH.cons (o := ⟨none, _, _, _, _, _⟩) rfl (fun K hK => ?_) AllReadyH.nil
          go_simp
          obtain ⟨wz, hwz⟩ : ∃ wz, wz = wq.setCell ⟨w.heap.size, kb, none⟩ (.bool true) := ⟨_, rfl⟩
          have hD := hD.set kb (.bool true)
          rw [boolRow_set] at hD
          have hX := hX.other (p := ⟨w.heap.size, kb, none⟩) (by dsimp only; omega) (.bool true)
          have hB := Below.setCell hB (p := ⟨w.heap.size, kb, none⟩) (Nat.le_refl _) (.bool true)
          rw [← hwz] at hD hX hB
          rw [← hwz]
          clear hwz
          refine hK.out _ _ ?_ (fun hHeld => ?_)
          · exact ⟨(At.cell hX 5).trans HQa.out, (At.cell hX 6).trans HQb.out⟩
          clear hK K
          try simp only [Act.put, List.setIfInBounds_toArray, List.set_cons_zero, List.set_cons_succ]
          refine wpAnyH_done (by kernel_rfl) ?_ _
          refine NoPanic.normal ?_
          go_wp2_with fail
          refine ⟨⟨t + 1, _, by have := HZ.out; omega, ?_, rfl, Lib.hid (by rw [← HM.out]; exact hD), Lib.hid hB⟩, by simp [intOf] <;> omega⟩
          have := HZ.out; omega
        by_cases hk5 : x.kind = 5
        · have HKd := Lib.hid hk5
          rw [hk5] at ck
          clear hk5
          have hab := HOj.out.2.1 (by have := HKd.out; omega)
          obtain ⟨ka, hka⟩ : ∃ q : Nat, x.a = (q : Int) := ⟨x.a.toNat, by omega⟩
          obtain ⟨kb, hkb⟩ : ∃ q : Nat, x.b = (q : Int) := ⟨x.b.toNat, by omega⟩
          have hka0 : (0 : Int) ≤ (ka : Int) := by omega
          have hkb0 : (0 : Int) ≤ (kb : Int) := by omega
          have hka1 : (ka : Int) < (id : Int) + 1 := by omega
          have hkb1 : (kb : Int) < (id : Int) + 1 := by omega
          have hka2 : ka < id + 1 := by omega
          have hkb2 : kb < id + 1 := by omega
          have HQa : Hid (x.cs.toArray[5]? = some (.int .i64 ka)) := Lib.hid (by show some (Value.int .i64 x.a) = _; rw [hka])
          have HQb : Hid (x.cs.toArray[6]? = some (.int .i64 kb)) := Lib.hid (by show some (Value.int .i64 x.b) = _; rw [hkb])
          have HM : Hid (boolRow (fun k => if k = kb then true else if k = ka then true else markTo ns id t k) (id + 1) = boolRow (markTo ns id (t + 1)) (id + 1)) := Lib.hid (boolRow_congr (fun k _ => mark_two HJ.out HX.out HMj.out (by have := HKd.out; omega) hka hkb k))
          clear hab hka hkb
          go_wp2_with (first
            | (with_reducible show wpList _ _ _ ({ dst := some 30, op := .load _ _, type := _, pos := _, after := _, guard := _ } :: _) _ _
               refine wpList_load_mid rfl 34 _ rfl b (off + j * 8) rfl x.cs _ HR.out Try.underlying34 rfl (by rw [Nd.cs_length]; kernel_rfl) ?_)
            | (with_reducible show wpList _ _ _ ({ dst := none, op := .store 34 _ _, type := _, pos := _, after := _, guard := _ } :: _) _ _
               refine wpList_store_row rfl 34 _ _ rfl wr.heap.size x.cs.toArray rfl rfl 34 Nd.zero.cs.toArray (At.new _ _ _) (by kernel_rfl) rfl hone ?_
               first | change wpList _ _ _ _ _ (boxN wr x) | change Exit.then _ _ _ _ (boxN wr x))
            | fail)
          have hD := HDb.out
          have hX := HXb.out
          have hB := HBb.out
          obtain ⟨w0, hw0⟩ : ∃ w0, w0 = boxN wr x := ⟨_, rfl⟩
          rw [← hw0] at hD hX hB
          rw [← hw0]
          clear hw0 ck dj c0
          refine wp_region_noPanic ?_
          refine wp_region_held_drew (S := (fun w' => w'.cell? ⟨wr.heap.size, 5, none⟩ = some (.int .i64 ka) ∧ w'.cell? ⟨wr.heap.size, 6, none⟩ = some (.int .i64 kb))) (by kernel_rfl) (by exact ⟨(At.cell hX 5).trans HQa.out, (At.cell hX 6).trans HQb.out⟩) (fun hHeld => ?_)
          have hD := hD.drew
          have hX := hX.drew
          have hB := below_drewN' hB 1
          obtain ⟨wc, hwc⟩ : ∃ wc, wc = w0.drew := ⟨_, rfl⟩
          change At w0.drew _ _ _ at hD
          change Below _ _ w0.drew at hB
          rw [← hwc] at hD hX hB
          rw [← hwc]
          try rw [← hwc] at hHeld
          clear hwc
          have dq := boolRow_at hD hka2
          have fq := hD.free ka
          refine wpAnyH_take (i := 0) (oi := ⟨some 37, _, _, _, _, _⟩) (v := ?_) rfl (by kernel_rfl) (by kernel_rfl) (by kernel_rfl) (fun _ _ _ h => h) (Or.inl ⟨by rfl, ?_⟩) (by exact hHeld) ?_
          rotate_left
          · (intro w hSw; (try dsimp only at hSw); go_simp; try (with_reducible rfl))
          simp only [Act.put, List.setIfInBounds_toArray, List.set_cons_zero, List.set_cons_succ]
          refine wpAnyH_take (i := 1) (oi := ⟨some 38, _, _, _, _, _⟩) (v := ?_) rfl (by kernel_rfl) (by kernel_rfl) (by kernel_rfl) (fun _ _ _ h => h) (Or.inl ⟨by rfl, ?_⟩) (by exact hHeld) ?_
          rotate_left
          · (intro w hSw; (try dsimp only at hSw); go_simp; try (with_reducible rfl))
          simp only [Act.put, List.setIfInBounds_toArray, List.set_cons_zero, List.set_cons_succ]
          refine wpAnyH_take (i := 2) (oi := ⟨some 39, _, _, _, _, _⟩) (v := ?_) rfl (by kernel_rfl) (by kernel_rfl) (by kernel_rfl) (fun _ _ _ h => h) (Or.inl ⟨by rfl, ?_⟩) (by exact hHeld) ?_
          rotate_left
          · (intro w hSw; (try dsimp only at hSw); obtain ⟨s1, s2⟩ := hSw; go_simp; try (with_reducible rfl))
          simp only [Act.put, List.setIfInBounds_toArray, List.set_cons_zero, List.set_cons_succ]
          refine wpAnyH_take (i := 3) (oi := ⟨some 40, _, _, _, _, _⟩) (v := ?_) rfl (by kernel_rfl) (by kernel_rfl) (by kernel_rfl) (fun _ _ _ h => h) (Or.inl ⟨by rfl, ?_⟩) (by exact hHeld) ?_
          rotate_left
          · (intro w hSw; (try dsimp only at hSw); go_simp; try (with_reducible rfl))
          simp only [Act.put, List.setIfInBounds_toArray, List.set_cons_zero, List.set_cons_succ]
          refine wpAnyH_take (i := 4) (oi := ⟨some 41, _, _, _, _, _⟩) (v := ?_) rfl (by kernel_rfl) (by kernel_rfl) (by kernel_rfl) (fun _ _ _ h => h) (Or.inl ⟨by rfl, ?_⟩) (by exact hHeld) ?_
          rotate_left
          · (intro w hSw; (try dsimp only at hSw); go_simp; try (with_reducible rfl))
          simp only [Act.put, List.setIfInBounds_toArray, List.set_cons_zero, List.set_cons_succ]
          refine wpAnyH_take (i := 5) (oi := ⟨some 42, _, _, _, _, _⟩) (v := ?_) rfl (by kernel_rfl) (by kernel_rfl) (by kernel_rfl) (fun _ _ _ h => h) (Or.inl ⟨by rfl, ?_⟩) (by exact hHeld) ?_
          rotate_left
          · (intro w hSw; (try dsimp only at hSw); obtain ⟨s1, s2⟩ := hSw; go_simp; try (with_reducible rfl))
          simp only [Act.put, List.setIfInBounds_toArray, List.set_cons_zero, List.set_cons_succ]
          refine wpAnyH_take (i := 6) (oi := ⟨some 43, _, _, _, _, _⟩) (v := ?_) rfl (by kernel_rfl) (by kernel_rfl) (by kernel_rfl) (fun _ _ _ h => h) (Or.inl ⟨by rfl, ?_⟩) (by exact hHeld) ?_
          rotate_left
          · (intro w hSw; (try dsimp only at hSw); go_simp; try (with_reducible rfl))
          simp only [Act.put, List.setIfInBounds_toArray, List.set_cons_zero, List.set_cons_succ]
          refine wpAnyH_ready (rs := [7]) (by kernel_rfl) (by simp) ?_
          refine AllReadyH.cons (o := ⟨none, _, _, _, _, _⟩) rfl (fun K hK => ?_) AllReadyH.nil
          go_simp
          obtain ⟨wq, hwq⟩ : ∃ wq, wq = wc.setCell ⟨w.heap.size, ka, none⟩ (.bool true) := ⟨_, rfl⟩
          have hD := hD.set ka (.bool true)
          rw [boolRow_set] at hD
          have hX := hX.other (p := ⟨w.heap.size, ka, none⟩) (by dsimp only; omega) (.bool true)
          have hB := Below.setCell hB (p := ⟨w.heap.size, ka, none⟩) (Nat.le_refl _) (.bool true)
          rw [← hwq] at hD hX hB
          rw [← hwq]
          clear hwq
          have dq := boolRow_at hD hkb2
          have fq := hD.free kb
          refine hK.out _ _ ?_ (fun hHeld => ?_)
          · exact ⟨(At.cell hX 5).trans HQa.out, (At.cell hX 6).trans HQb.out⟩
          clear hK K
          try simp only [Act.put, List.setIfInBounds_toArray, List.set_cons_zero, List.set_cons_succ]
          refine wpAnyH_take (i := 8) (oi := ⟨some 44, _, _, _, _, _⟩) (v := ?_) rfl (by kernel_rfl) (by kernel_rfl) (by kernel_rfl) (fun _ _ _ h => h) (Or.inl ⟨by rfl, ?_⟩) (by exact hHeld) ?_
          rotate_left
          · (intro w hSw; (try dsimp only at hSw); go_simp; try (with_reducible rfl))
          simp only [Act.put, List.setIfInBounds_toArray, List.set_cons_zero, List.set_cons_succ]
          refine wpAnyH_ready (rs := [9]) (by kernel_rfl) (by simp) ?_
          refine AllReadyH.cons (o := ⟨none, _, _, _, _, _⟩) rfl (fun K hK => ?_) AllReadyH.nil
          go_simp
          obtain ⟨wz, hwz⟩ : ∃ wz, wz = wq.setCell ⟨w.heap.size, kb, none⟩ (.bool true) := ⟨_, rfl⟩
          have hD := hD.set kb (.bool true)
          rw [boolRow_set] at hD
          have hX := hX.other (p := ⟨w.heap.size, kb, none⟩) (by dsimp only; omega) (.bool true)
          have hB := Below.setCell hB (p := ⟨w.heap.size, kb, none⟩) (Nat.le_refl _) (.bool true)
          rw [← hwz] at hD hX hB
          rw [← hwz]
          clear hwz
          refine hK.out _ _ ?_ (fun hHeld => ?_)
          · exact ⟨(At.cell hX 5).trans HQa.out, (At.cell hX 6).trans HQb.out⟩
          clear hK K
          try simp only [Act.put, List.setIfInBounds_toArray, List.set_cons_zero, List.set_cons_succ]
          refine wpAnyH_done (by kernel_rfl) ?_ _
          refine NoPanic.normal ?_
          go_wp2_with fail
          refine ⟨⟨t + 1, _, by have := HZ.out; omega, ?_, rfl, Lib.hid (by rw [← HM.out]; exact hD), Lib.hid hB⟩, by simp [intOf] <;> omega⟩
          have := HZ.out; omega
        by_cases hk6 : x.kind = 6
        · have HKd := Lib.hid hk6
          rw [hk6] at ck
          clear hk6
          have hab := HOj.out.2.2.1 (by have := HKd.out; omega)
          obtain ⟨ka, hka⟩ : ∃ q : Nat, x.a = (q : Int) := ⟨x.a.toNat, by omega⟩
          have hka0 : (0 : Int) ≤ (ka : Int) := by omega
          have hka1 : (ka : Int) < (id : Int) + 1 := by omega
          have hka2 : ka < id + 1 := by omega
          have c5 := (Nd.cells HXb.out).2.2.2.2.2.1
          rw [hka] at c5
          have dq := boolRow_at HDb.out hka2
          have fq := HDb.out.free ka
          have HM : Hid (boolRow (fun k => if k = ka then true else markTo ns id t k) (id + 1) = boolRow (markTo ns id (t + 1)) (id + 1)) := Lib.hid (boolRow_congr (fun k _ => mark_one HJ.out HX.out HMj.out (by have := HKd.out; omega) hka k))
          have HDq : Hid (At ((boxN wr x).setCell ⟨w.heap.size, ka, none⟩ (.bool true)) w.heap.size 4 (boolRow (fun k => if k = ka then true else markTo ns id t k) (id + 1))) := Lib.hid (by have q := HDb.out.set ka (.bool true); rw [boolRow_set] at q; exact q)
          have HBq := Lib.hid (Below.setCell HBb.out (p := ⟨w.heap.size, ka, none⟩) (Nat.le_refl _) (.bool true))
          clear hab hka
          go_wp2_with (first
            | (with_reducible show wpList _ _ _ ({ dst := some 30, op := .load _ _, type := _, pos := _, after := _, guard := _ } :: _) _ _
               refine wpList_load_mid rfl 34 _ rfl b (off + j * 8) rfl x.cs _ HR.out Try.underlying34 rfl (by rw [Nd.cs_length]; kernel_rfl) ?_)
            | (with_reducible show wpList _ _ _ ({ dst := none, op := .store 34 _ _, type := _, pos := _, after := _, guard := _ } :: _) _ _
               refine wpList_store_row rfl 34 _ _ rfl wr.heap.size x.cs.toArray rfl rfl 34 Nd.zero.cs.toArray (At.new _ _ _) (by kernel_rfl) rfl hone ?_
               first | change wpList _ _ _ _ _ (boxN wr x) | change Exit.then _ _ _ _ (boxN wr x))
            | fail)
          refine ⟨⟨t + 1, _, by have := HZ.out; omega, ?_, rfl, Lib.hid (by rw [← HM.out]; exact HDq.out), Lib.hid HBq.out⟩, by simp [intOf] <;> omega⟩
          have := HZ.out; omega
        by_cases hk7 : x.kind = 7
        · have HKd := Lib.hid hk7
          rw [hk7] at ck
          clear hk7
          have hab := HOj.out.2.2.1 (by have := HKd.out; omega)
          obtain ⟨ka, hka⟩ : ∃ q : Nat, x.a = (q : Int) := ⟨x.a.toNat, by omega⟩
          have hka0 : (0 : Int) ≤ (ka : Int) := by omega
          have hka1 : (ka : Int) < (id : Int) + 1 := by omega
          have hka2 : ka < id + 1 := by omega
          have c5 := (Nd.cells HXb.out).2.2.2.2.2.1
          rw [hka] at c5
          have dq := boolRow_at HDb.out hka2
          have fq := HDb.out.free ka
          have HM : Hid (boolRow (fun k => if k = ka then true else markTo ns id t k) (id + 1) = boolRow (markTo ns id (t + 1)) (id + 1)) := Lib.hid (boolRow_congr (fun k _ => mark_one HJ.out HX.out HMj.out (by have := HKd.out; omega) hka k))
          have HDq : Hid (At ((boxN wr x).setCell ⟨w.heap.size, ka, none⟩ (.bool true)) w.heap.size 4 (boolRow (fun k => if k = ka then true else markTo ns id t k) (id + 1))) := Lib.hid (by have q := HDb.out.set ka (.bool true); rw [boolRow_set] at q; exact q)
          have HBq := Lib.hid (Below.setCell HBb.out (p := ⟨w.heap.size, ka, none⟩) (Nat.le_refl _) (.bool true))
          clear hab hka
          go_wp2_with (first
            | (with_reducible show wpList _ _ _ ({ dst := some 30, op := .load _ _, type := _, pos := _, after := _, guard := _ } :: _) _ _
               refine wpList_load_mid rfl 34 _ rfl b (off + j * 8) rfl x.cs _ HR.out Try.underlying34 rfl (by rw [Nd.cs_length]; kernel_rfl) ?_)
            | (with_reducible show wpList _ _ _ ({ dst := none, op := .store 34 _ _, type := _, pos := _, after := _, guard := _ } :: _) _ _
               refine wpList_store_row rfl 34 _ _ rfl wr.heap.size x.cs.toArray rfl rfl 34 Nd.zero.cs.toArray (At.new _ _ _) (by kernel_rfl) rfl hone ?_
               first | change wpList _ _ _ _ _ (boxN wr x) | change Exit.then _ _ _ _ (boxN wr x))
            | fail)
          refine ⟨⟨t + 1, _, by have := HZ.out; omega, ?_, rfl, Lib.hid (by rw [← HM.out]; exact HDq.out), Lib.hid HBq.out⟩, by simp [intOf] <;> omega⟩
          have := HZ.out; omega
        have hb3 := (int_ne hk3).1
        have h3 := Lib.hid hk3
        have hb4 := (int_ne hk4).1
        have h4 := Lib.hid hk4
        have hb5 := (int_ne hk5).1
        have h5 := Lib.hid hk5
        have hb6 := (int_ne hk6).1
        have h6 := Lib.hid hk6
        have hb7 := (int_ne hk7).1
        have h7 := Lib.hid hk7
        clear hk3 hk4 hk5 hk6 hk7
        have HM : Hid (boolRow (markTo ns id t) (id + 1) = boolRow (markTo ns id (t + 1)) (id + 1)) := Lib.hid (boolRow_congr (fun k _ => mark_none HJ.out HX.out h3.out h4.out h5.out h6.out h7.out k))
        go_wp2_with (first
          | (with_reducible show wpList _ _ _ ({ dst := some 30, op := .load _ _, type := _, pos := _, after := _, guard := _ } :: _) _ _
             refine wpList_load_mid rfl 34 _ rfl b (off + j * 8) rfl x.cs _ HR.out Try.underlying34 rfl (by rw [Nd.cs_length]; kernel_rfl) ?_)
          | (with_reducible show wpList _ _ _ ({ dst := none, op := .store 34 _ _, type := _, pos := _, after := _, guard := _ } :: _) _ _
             refine wpList_store_row rfl 34 _ _ rfl wr.heap.size x.cs.toArray rfl rfl 34 Nd.zero.cs.toArray (At.new _ _ _) (by kernel_rfl) rfl hone ?_
             first | change wpList _ _ _ _ _ (boxN wr x) | change Exit.then _ _ _ _ (boxN wr x))
          | fail)
        refine ⟨⟨t + 1, _, by have := HZ.out; omega, ?_, rfl, Lib.hid (by rw [← HM.out]; exact HDb.out), Lib.hid HBb.out⟩, by simp [intOf] <;> omega⟩
        have := HZ.out; omega
    · obtain rfl : t = id + 1 := by omega
      have hz1 : z = -1 := by omega
      subst hz1
      go_wp2_with fail
      go_ret
      refine ⟨w.heap.size, rfl, ?_, Nat.le_refl _, HB.out⟩
      rw [boolRow_congr (f := fun k => belowS ns k (id + 1) id) (g := markTo ns id (id + 1)) (fun k _ => (HEnd.out k).symm)]
      exact HD.out

end Go.Proofs.Ytoicbahkoejhjaa
