/- Turn of the arena; of a nil one. -/
import Derived.Test.YtoicbahkoejhjaaArenaBelow
import Derived.Test.YtoicbahkoejhjaaArenaPut
import Derived.Test.YtoicbahkoejhjaaTurnMath
namespace Go.Proofs.Ytoicbahkoejhjaa
open Go.RowKit Go.Maps
set_option linter.unusedVariables false
set_option linter.unusedSimpArgs false

theorem info_int : (Try.prog.info? 3).map (fun i => (i.zero, i.size, i.bytes)) = some (some (.int .i64 0), 1, 8) := by kernel_rfl
theorem make_ints (n : Nat) (hn : n < 1000) (W : World) : (Instr.makeSlice 63 (.int .i64 ((n : Int) + 1)) (.int .i64 ((n : Int) + 1))).run Try.prog W = .ok (.slice (some ⟨W.heap.size, 0, none⟩) (n + 1) (n + 1)) (W.alloc (.cells (intRow (fun _ => 0) (n + 1)) 3)) := by
  have h : (Instr.makeSlice 63 (.int .i64 ((n + 1 : Nat) : Int)) (.int .i64 ((n + 1 : Nat) : Int))).run Try.prog W = .ok (.slice (some ⟨W.heap.size, 0, none⟩) (n + 1) (n + 1)) (W.alloc (.cells (intRow (fun _ => 0) (n + 1)) 3)) := by
    rw [intRow_zero]
    exact run_make_row' 63 3 (.int .i64 0) 8 Try.underlying63 info_int rfl .i64 .i64 (n + 1) (by omega) (by omega) W
  rw [show ((n + 1 : Nat) : Int) = (n : Int) + 1 by omega] at h
  exact h
theorem OffF.fresh {F : Nat → Prop} {w w1 : World} {g i : Nat} (h : OffF F w w1) (hg : w.heap.size ≤ g) (v : Value) : OffF F w (w1.setCell ⟨g, i, none⟩ v) :=
  ⟨h.os, h.tape, h.output, (by rw [World.size_setCell]; exact h.size), fun b hlt hn => by
    rw [Below.heap_setCell w1 ⟨g, i, none⟩ v b (fun e => by dsimp only at e; omega)]
    exact h.block b hlt hn⟩

set_option maxRecDepth 100000 in
set_option maxHeartbeats 16000000 in
theorem aTurn {w : World} {a : Value} {ns : List Nd} {F : Nat → Prop} (i : Int) (h : AA w a ns F) (hn : ns.length ≤ 1000) :
    Calls Try.prog 15 #[a, .int .i64 i] w fun e w' => ∃ (x : Int) (more : List Nd) (F' : Nat → Prop), e = .returned (.int .i64 x) ∧ AA w' a (ns ++ more) F' ∧ more.length ≤ ns.length ∧ (∀ b, F' b → F b ∨ w.heap.size ≤ b) ∧ OffF F w w' ∧ (¬ (0 ≤ i ∧ i < ns.length) → x = -1 ∧ more = []) ∧ (0 ≤ i ∧ i < ns.length → ∃ f, TurnR (ns ++ more) f i x) := by
  have HH : Hid (Calls Try.prog 24 #[a, .int .i64 i] w fun e w' => e = .returned (.bool (aIn i ns.length)) ∧ w' = w) := Lib.hid (aHas i h)
  have HAA := Lib.hid h
  by_cases hin : 0 ≤ i ∧ i < ns.length
  · have HIn := Lib.hid hin
    obtain ⟨id, rfl⟩ : ∃ id : Nat, i = (id : Int) := ⟨i.toNat, by omega⟩
    have hid : id < ns.length := by omega
    have HV : Hid (aIn (id : Int) ns.length = true) := Lib.hid (by rw [aIn_iff, decide_eq_true HIn.out])
    have HB0 : Hid (Below w.heap.size w (w.alloc (.cells (intRow (fun _ => 0) (id + 1)) 3))) := Lib.hid ((Below.refl _ _).alloc (Nat.le_refl _) _)
    have HBl : Hid (Calls Try.prog 25 #[a, .int .i64 id] (w.alloc (.cells (intRow (fun _ => 0) (id + 1)) 3)) fun e w' => ∃ gb, e = .returned (.slice (some ⟨gb, 0, none⟩) (id + 1) (id + 1)) ∧ At w' gb 4 (boolRow (fun k => belowS ns k (id + 1) id) (id + 1)) ∧ (w.alloc (.cells (intRow (fun _ => 0) (id + 1)) 3)).heap.size ≤ gb ∧ Below (w.alloc (.cells (intRow (fun _ => 0) (id + 1)) 3)).heap.size (w.alloc (.cells (intRow (fun _ => 0) (id + 1)) 3)) w') := Lib.hid (aBelow id (h.next HB0.out) hid hn)
    have hmk := make_ints id (by omega)
    obtain ⟨g, m, v, h⟩ := h
    obtain rfl := h.ptr
    obtain ⟨A, c, rfl⟩ := h.row.len
    have hmx := h.max
    have c0 := h.box.cell 0
    have hok : ∀ j, j < ns.length → NdOk (ndAt ns j) j := fun j hj => h.fine.ok j hj
    have HOk := Lib.hid hok
    have HF := Lib.hid h.fine
    have hg : g < w.heap.size := h.box.lt
    have HFl := Lib.hid h.low
    have HA0 : Hid (At (w.alloc (.cells (intRow (fun _ => 0) (id + 1)) 3)) w.heap.size 3 (intRow (fun _ => 0) (id + 1))) := Lib.hid (At.new _ _ _)
    clear h hok hin
    go_enter Try.func15, Try.ntmps15
    go_wp2_with fail
    refine HH.out.mono ?_
    rintro e w1 ⟨rfl, rfl⟩
    rw [HV.out]
    go_wp2_with fail
    refine HBl.out.mono ?_
    rintro e w2 ⟨gb, rfl, hD2, hgb, hb2⟩
    have hgb1 : w1.heap.size < gb := by rw [World.size_alloc] at hgb; omega
    have HD2 := Lib.hid hD2
    have HG2 := Lib.hid (HA0.out.step hb2 rfl)
    have HB2 := Lib.hid (HB0.out.trans (hb2.mono HB0.out.size))
    have hgb2 := hD2.lt
    clear hD2 hb2 hgb hmk c0
    have HAA2 := Lib.hid (HAA.out.next HB2.out)
    go_wp2_with fail
    go_loopw [27] (fun x wr => ∃ (j : Nat) (f : Nat → Int) (more : List Nd) (F' : Nat → Prop), j ≤ id + 1 ∧ x = .int .i64 j ∧ Hid (TurnJ ns more id j f) ∧ Hid (AA wr (.pointer (some ⟨g, 0, none⟩)) (ns ++ more) F') ∧ Hid (∀ b, F' b → F b ∨ w2.heap.size ≤ b) ∧ Hid (OffF F w1 wr) ∧ Hid (At wr w1.heap.size 3 (intRow f (id + 1))) ∧ Hid (At wr gb 4 (boolRow (fun k => belowS ns k (id + 1) id) (id + 1))) ∧ Hid (w2.heap.size ≤ wr.heap.size)) (fun x _ => id + 1 - (intOf x).toNat)
    case atStart =>
      refine ⟨0, fun _ => 0, [], F, Nat.zero_le _, rfl, Lib.hid ⟨by rw [List.append_nil]; exact HF.out, Nat.le_refl _, fun k hk => absurd hk (Nat.not_lt_zero _)⟩, Lib.hid (by rw [List.append_nil]; exact HAA2.out), Lib.hid (fun b q => Or.inl q), Lib.hid (OffF.of HB2.out), HG2, HD2, Lib.hid (Nat.le_refl _)⟩
    case round =>
      clear HD2 HB2 HG2 HAA2
      obtain ⟨j, f, more, F', hj, rfl, HJ, HA, HFn, HO, HG, HD, HW⟩ := hrel
      have hfew := HJ.out.few
      have hml : (ns ++ more).length = ns.length + more.length := List.length_append
      by_cases hjl : j < id + 1
      · have hj0 : (0 : Int) ≤ (j : Int) := by omega
        have hj1 : (j : Int) < (id : Int) + 1 := by omega
        have hjn : j < ns.length := by omega
        have dj : wr.cell? ⟨gb, j, none⟩ = some (.bool (belowS ns j (id + 1) id)) := boolRow_at HD.out hjl
        cases hm : belowS ns j (id + 1) id with
        | false =>
          rw [hm] at dj
          have HJ2 := Lib.hid (HJ.out.skip hm)
          clear hm
          go_wp2_with fail
          refine ⟨⟨j + 1, f, more, F', by omega, by go_num, HJ2, HA, HFn, HO, HG, HD, HW⟩, by simp [intOf] <;> omega⟩
        | true =>
          rw [hm] at dj
          have HMj := Lib.hid hm
          obtain ⟨g', m', v', h'⟩ := HA.out
          obtain rfl : g' = g := by have e := h'.ptr; injection e with e; injection e with e; injection e with e; exact e.symm
          obtain ⟨A', c', rfl⟩ := h'.row.len
          have c0 := h'.box.cell 0
          have hjm : (j : Int) < ((ns ++ more).length : Int) := by omega
          obtain ⟨_, _, e1, _, h3⟩ := h'.row.nds (by omega)
          injection e1 with e1 e7 e3
          subst e1 e3
          clear e7
          obtain ⟨b, off, rfl, hb, hr⟩ := h3 (by omega)
          have HR := Lib.hid (hr j (by omega))
          rw [nd_left hjn] at HR
          obtain ⟨x, hx⟩ : ∃ y, ndAt ns j = y := ⟨_, rfl⟩
          rw [hx] at HR
          have HX := Lib.hid hx
          have HFit := Lib.hid (HJ.out.fit HOk.out hid (by omega) hm hx (by omega))
          have HNo : Hid (NdOk x (id + 1)) := Lib.hid (by rw [← hx]; exact (HOk.out j hjn).mono (by omega))
          have HPE : Hid (putE (ns ++ more) (turnN f x) = 0) := Lib.hid (by unfold putE; rw [if_pos HFit.out.2])
          have hone := Nd.one x
          clear h3 hr hx hb hm h'
          go_wp2_with (first
            | (with_reducible show wpList _ _ _ ({ dst := some 42, op := .load _ _, type := _, pos := _, after := _, guard := _ } :: _) _ _
               refine wpList_load_mid rfl 34 _ rfl b (off + j * 8) rfl x.cs _ HR.out Try.underlying34 rfl (by rw [Nd.cs_length]; kernel_rfl) ?_)
            | fail)
          refine (aTurned x f (id + 1) w1.heap.size (id + 1) wr HG.out HNo.out (by omega)).mono ?_
          rintro e w4 ⟨rfl, hb4⟩
          have HA4 := Lib.hid (HA.out.next hb4)
          have HG4 := Lib.hid (HG.out.step hb4 rfl)
          have HD4 := Lib.hid (HD.out.step hb4 rfl)
          have HO4 := Lib.hid (HO.out.then hb4)
          have HW4 : Hid (w2.heap.size ≤ w4.heap.size) := Lib.hid (Nat.le_trans HW.out hb4.size)
          clear hb4 dj c0
          go_wp2_with fail
          refine (aPut (turnN f x) HA4.out HFit.out.1 (by omega)).mono ?_
          rintro e w5 ⟨F5, rfl, hA5, hF5, ho5⟩
          rw [HPE.out]
          obtain ⟨more', em, hJ5⟩ := HJ.out.step HOk.out hid (by omega) HMj.out HX.out (by omega) hA5.fine
          have HJ5 := Lib.hid hJ5
          have hnF : ∀ q, q < w2.heap.size → w1.heap.size ≤ q → ¬ F' q := fun q q1 q2 q3 => by
            rcases HFn.out q q3 with r | r
            · have := HFl.out q r; omega
            · omega
          have hG5 : At w5 w1.heap.size 3 (intRow f (id + 1)) := (ho5.block _ HG4.out.lt (hnF _ (by omega) (Nat.le_refl _))).trans HG4.out
          have hD5 : At w5 gb 4 (boolRow (fun k => belowS ns k (id + 1) id) (id + 1)) := (ho5.block _ HD4.out.lt (hnF _ hgb2 (by omega))).trans HD4.out
          have hF5' : ∀ b, F5 b → F b ∨ w2.heap.size ≤ b := fun b q => by
            rcases hF5 b q with q | q
            · exact HFn.out b q
            · right; have := HW4.out; omega
          have HF5 := Lib.hid hF5'
          have HO5 : Hid (OffF F w1 w5) := Lib.hid (HO4.out.off ho5 (fun b q => by
            rcases HFn.out b q with r | r
            · exact Or.inl r
            · right; omega))
          have HW5 : Hid (w2.heap.size ≤ w5.heap.size) := Lib.hid (Nat.le_trans HW4.out ho5.size)
          have tj := intRow_at hG5 hjl
          have fj := hG5.free j
          have HG6 : Hid (At (w5.setCell ⟨w1.heap.size, j, none⟩ (.int .i64 (putId (ns ++ more) (turnN f x)))) w1.heap.size 3 (intRow (fun k => if k = j then putId (ns ++ more) (turnN f x) else f k) (id + 1))) := Lib.hid (by
            have q := hG5.set j (.int .i64 (putId (ns ++ more) (turnN f x)))
            rw [intRow_set] at q
            exact q)
          have HD6 := Lib.hid (hD5.other (p := ⟨w1.heap.size, j, none⟩) (by dsimp only; omega) (.int .i64 (putId (ns ++ more) (turnN f x))))
          have HO6 := Lib.hid (HO5.out.fresh (g := w1.heap.size) (i := j) (Nat.le_refl _) (.int .i64 (putId (ns ++ more) (turnN f x))))
          have HA6 : Hid (AA (w5.setCell ⟨w1.heap.size, j, none⟩ (.int .i64 (putId (ns ++ more) (turnN f x)))) (.pointer (some ⟨g', 0, none⟩)) (ns ++ more') F5) := Lib.hid (by
            rw [← em]
            exact hA5.keep (fun b q => Below.heap_setCell w5 ⟨w1.heap.size, j, none⟩ _ b (fun e => by
              dsimp only at e
              rcases hF5' b q with r | r
              · have := HFl.out b r; omega
              · omega)))
          have HW6 : Hid (w2.heap.size ≤ (w5.setCell ⟨w1.heap.size, j, none⟩ (.int .i64 (putId (ns ++ more) (turnN f x)))).heap.size) := Lib.hid (by rw [World.size_setCell]; exact HW5.out)
          clear hA5 hF5 ho5 hJ5 hnF hG5 hD5 hF5' em
          go_wp2_with fail
          refine ⟨⟨j + 1, _, more', F5, by omega, by go_num, HJ5, HA6, HF5, HO6, HG6, HD6, HW6⟩, by simp [intOf] <;> omega⟩
      · obtain rfl : j = id + 1 := by omega
        have hid0 : (0 : Int) ≤ (id : Int) := by omega
        have hid1 : (id : Int) < (id : Int) + 1 := by omega
        have tj := intRow_at HG.out (Nat.lt_succ_self id)
        go_wp2_with fail
        go_ret
        refine ⟨_, more, F', rfl, HA.out, by omega, fun b q => ?_, HO.out, fun q => absurd HIn.out q, fun _ => ⟨id + 1, HJ.out.turned id (Nat.lt_succ_self _) (below_self ns id id)⟩⟩
        rcases HFn.out b q with r | r
        · exact Or.inl r
        · right; omega
  · have HIn := Lib.hid hin
    have HV : Hid (aIn i ns.length = false) := Lib.hid (by rw [aIn_iff, decide_eq_false HIn.out])
    clear hin h
    go_enter Try.func15, Try.ntmps15
    go_wp2_with fail
    refine HH.out.mono ?_
    rintro e w1 ⟨rfl, rfl⟩
    rw [HV.out]
    go_wp2_with fail
    go_ret
    exact ⟨_, [], F, rfl, by rw [List.append_nil]; exact HAA.out, Nat.zero_le _, fun b q => Or.inl q, OffF.of (Below.refl _ _), fun _ => ⟨rfl, rfl⟩, fun q => absurd q HIn.out⟩

set_option maxRecDepth 100000 in
set_option maxHeartbeats 4000000 in
theorem nilTurn (w : World) (i : Int) : Calls Try.prog 15 #[.pointer none, .int .i64 i] w fun e w' => e = .returned (.int .i64 (-1)) ∧ Below w.heap.size w w' := by
  have HH := Lib.hid (nilHas i w)
  go_enter Try.func15, Try.ntmps15
  go_wp2_with fail
  refine HH.out.mono ?_
  rintro e w1 ⟨rfl, rfl⟩
  go_wp2_with fail
  go_ret
  exact ⟨rfl, Below.refl _ _⟩

end Go.Proofs.Ytoicbahkoejhjaa
