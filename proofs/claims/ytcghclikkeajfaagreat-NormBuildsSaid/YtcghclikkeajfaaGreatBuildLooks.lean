/- norm.numbersOfLooks, without a look. -/
import Derived.Test.YtcghclikkeajfaaGreatMp
import Derived.Test.YtcghclikkeajfaaGreatRefLooks
import Derived.Test.YtcghclikkeajfaaGreatMC
import Derived.TacticsInMore
namespace Go.Proofs.YtcghclikkeajfaaGreat
open Go.RowKit
set_option linter.unusedSimpArgs false
set_option linter.unusedVariables false

set_option maxRecDepth 100000 in
theorem nilf_eq : ∀ W, (binOp .eql 31 .nilFunc .nilFunc).run Tryz.prog W = .ok (.bool true) W := fun W => by
  rfl
theorem results_int_cell {fn : Func} {p : Tmp} (h : fn.results = #[.cell p 3]) {tmps : Array Value} {w : World} {a : Addr} {x : Int} (hp : tmps.getD p undef = .pointer (some a)) (hc : w.cell? a = some (.int .i64 x)) : (results fn tmps).run Tryz.prog w = .ok (.int .i64 x) w := by
  unfold results
  rw [h]
  rw [Array.getD_eq_getD_getElem?] at hp
  simp [hp, hc, go_sem]

set_option maxRecDepth 100000 in
set_option maxHeartbeats 4000000 in
theorem nAnswer (t : Tr) (w : World) : Calls Tryz.prog 53 #[.nilFunc, .agg t.cs.toArray] w fun e w' => e = .returned (.int .i64 (-1)) ∧ Below w.heap.size w w' := by
  have hB : Below w.heap.size w ((w.alloc (.cells t.cs.toArray 27)).alloc (.cells #[.int .i64 (-1)] 3)) := ((Below.refl _ _).alloc (Nat.le_refl _) _).alloc (by simp) _
  have hq := nilf_eq
  go_enter_defers Tryz.func53, Tryz.ntmps53
  go_wp2_with fail
  refine ⟨.int .i64 (-1), results_int_cell (a := ⟨w.heap.size + 1, 0, none⟩) rfl rfl ?_, rfl, hB⟩
  have := (At.new (w.alloc (.cells t.cs.toArray 27)) 3 #[.int .i64 (-1)]).cell 0
  rw [World.size_alloc] at this
  exact this

def LooksAt (k : Nat) : Prop := ∀ (t : Tr) (w : World), Tr.In w k t → formedS k t = true → Calls Tryz.prog 24 #[.slice none 0 0, .agg t.cs.toArray, .nilFunc] w fun e w' => ∃ v, e = .returned (.tuple #[v, .bool (!lookB k t)]) ∧ (lookB k t = false → v = .slice none 0 0) ∧ Below w.heap.size w w'
theorem lookB_kind {k : Nat} {t : Tr} (h : 8 ≤ t.kind) : lookB (k + 1) t = true := by
  show (decide (8 ≤ t.kind) || _) = true
  rw [decide_eq_true h]; rfl
theorem lookB_parts {k : Nat} {t : Tr} (h : ¬ 8 ≤ t.kind) : lookB (k + 1) t = t.parts.any (lookB k) := by
  show (decide (8 ≤ t.kind) || _) = _
  rw [decide_eq_false h]; rfl
theorem bareRow (t : Tr) : (bareT t).cs.toArray = (t.cs.set 8 (.bool false)).toArray := by cases t; rfl

set_option maxRecDepth 100000 in
set_option maxHeartbeats 8000000 in
theorem nLooks : ∀ k, LooksAt k
  | 0 => fun _ _ h => h.elim
  | k + 1 => fun t w h hf => by
    have hlen : t.parts.length ≤ 9223372036854775807 := by have := h.2.1; omega
    have hn := h.2.1.1
    have HN := Lib.hid hn
    have HI := Lib.hid h
    have HIH := Lib.hid (nLooks k)
    have hfo : ownF t = true ∧ t.parts.all (formedS k) = true := by
      have : (ownF t && t.parts.all (formedS k)) = true := hf
      rw [Bool.and_eq_true] at this
      exact this
    have hkd : 0 ≤ t.kind ∧ t.kind ≤ 11 := by
      have := hfo.1
      unfold ownF at this
      exact (of_decide_eq_true this).1
    have HFp : Hid (∀ p ∈ t.parts, formedS k p = true) := Lib.hid (fun p hp => List.all_eq_true.1 hfo.2 p hp)
    have hA : At (w.alloc (Obj.cells t.cs.toArray 27)) w.heap.size 27 t.cs.toArray := At.new _ _ _
    have hB : Below w.heap.size w (w.alloc (Obj.cells t.cs.toArray 27)) := (Below.refl _ _).alloc (Nat.le_refl _) _
    obtain ⟨c0, c5, c6, c7, c8⟩ := At.tr_cell hA
    rw [hn] at c5
    have HC5 := Lib.hid c5
    clear h hf hfo hn c5 c6 c7
    by_cases hk : 8 ≤ t.kind
    · have HL := Lib.hid (lookB_kind (k := k) hk)
      have hk4 : t.kind = 8 ∨ t.kind = 9 ∨ t.kind = 10 ∨ t.kind = 11 := by omega
      clear hk hkd
      rw [HL.out]
      have HNa := nAnswer (bareT t)
      obtain ⟨cs1, hcs1⟩ : ∃ cs1, cs1 = (t.cs.set 8 (.bool false)).toArray := ⟨_, rfl⟩
      rw [bareRow, ← hcs1] at HNa
      have HNa := Lib.hid HNa
      have HA1 : Hid (At (w.alloc (.cells cs1 27)) w.heap.size 27 cs1) := Lib.hid (At.new _ _ _)
      have HB1 : Hid (Below w.heap.size w (w.alloc (.cells cs1 27))) := Lib.hid ((Below.refl _ _).alloc (Nat.le_refl _) _)
      rw [show cs1 = t.cs.toArray.setIfInBounds 8 (.bool false) by rw [hcs1]; simp] at HA1
      rcases hk4 with hk | hk | hk | hk
      all_goals
        rw [hk] at c0
        go_enter Tryz.func24, Tryz.ntmps24
        go_wp2_with (first
          | (with_reducible show wpList _ _ _ ({ dst := some 21, op := .load _ _, type := _, pos := _, after := _, guard := _ } :: _) _ _
             refine wpList_load_row rfl 27 _ rfl w.heap.size rfl 27 (t.cs.toArray.setIfInBounds 8 (.bool false)) (0, 0) _ HA1.out Tryz.underlying27 rfl (by rw [Array.size_setIfInBounds]; kernel_rfl) ?_)
          | fail)
        rw [← hcs1]
        refine (HNa.out _).mono ?_
        rintro e w1 ⟨rfl, hb1⟩
        have HB2 := Lib.hid (below_step HB1.out hb1 rfl rfl rfl rfl)
        clear hb1
        go_wp2_with fail
        go_ret2
        refine ⟨_, rfl, fun q => (by cases q), ?_⟩
        exact ((HB2.out.alloc HB2.out.size _).alloc (by rw [World.size_alloc]; have := HB2.out.size; omega) _).drew
    · have hlb := lookB_parts (k := k) hk
      have HLb := Lib.hid hlb
      have d8 := (int_ne (show ¬ t.kind = 8 by omega)).1
      have d9 := (int_ne (show ¬ t.kind = 9 by omega)).1
      have d10 := (int_ne (show ¬ t.kind = 10 by omega)).1
      have d11 := (int_ne (show ¬ t.kind = 11 by omega)).1
      have c5 := HC5.out
      clear hk hkd hlb
      go_enter Tryz.func24, Tryz.ntmps24
      go_wp2_with fail
      go_loopw [0, 9, 36] (fun v o i wr => ∃ j : Nat, j ≤ t.parts.length ∧ i = .int .i64 j ∧ v = .slice none 0 0 ∧ o = .bool true ∧ Hid ((t.parts.take j).any (lookB k) = false) ∧ Hid (At wr w.heap.size 27 t.cs.toArray) ∧ Hid (Below w.heap.size w wr)) (fun _ _ i _ => t.parts.length - (intOf i).toNat)
      case atStart => exact ⟨0, Nat.zero_le _, rfl, rfl, rfl, Lib.hid rfl, Lib.hid hA, Lib.hid hB⟩
      case round =>
        clear c5 c0 c8 hA hB
        obtain ⟨j, hj, rfl, rfl, rfl, HT, hA, hB⟩ := hrel
        by_cases hlt : j < t.parts.length
        · obtain ⟨b, off, ha, hb, hr⟩ := HI.out.2.2.1 (by rw [HN.out]; omega)
          have HR := Lib.hid (range_below (hr j hlt) hb (Nat.le_refl _) hB.out)
          have HP := Lib.hid (Tr.In.next (HI.out.2.2.2 j hlt) hB.out)
          have hA2 := boxW_at wr t.parts[j]
          have HP2 := Lib.hid (HP.out.next (boxW_next wr t.parts[j]))
          have HTs : Hid ((t.parts.take (j + 1)).any (lookB k) = lookB k t.parts[j]) := Lib.hid (by
            rw [List.take_succ_eq_append_getElem hlt, List.any_append, HT.out]; simp)
          have HFj := HFp.out t.parts[j] (List.getElem_mem hlt)
          clear hr hb
          rw [ha]
          clear ha
          have hjz : (0 : Int) ≤ (j : Int) := by omega
          have hjn : (j : Int) < (t.parts.length : Int) := by omega
          go_wp2_with (first
            | (refine wpList_load_mid rfl 27 _ rfl b (off + j * 9) rfl t.parts[j].cs _ HR.out Tryz.underlying27 rfl (by rw [Tr.cs_length]; kernel_rfl) ?_)
            | (refine wpList_store_row rfl 27 _ _ rfl wr.heap.size t.parts[j].cs.toArray rfl rfl 27 Tr.blank.cs.toArray (At.new _ _ _) (by kernel_rfl) rfl (Tr.one _) ?_; change Exit.then _ _ _ _ (boxW wr t.parts[j]))
            | (refine wpList_load_row rfl 27 _ rfl wr.heap.size rfl 27 t.parts[j].cs.toArray (0, 0) _ hA2 Tryz.underlying27 rfl (by kernel_rfl) ?_) | fail)
          refine (HIH.out t.parts[j] _ HP2.out HFj).mono ?_
          rintro e w3 ⟨v, rfl, hv, hb3⟩
          have HBx := boxW_below hB.out t.parts[j]
          have HA := Lib.hid ((hA.out.below (boxW_next wr t.parts[j]) hA.out.lt).below hb3 (by rw [boxW_size]; have := hA.out.lt; omega))
          have HB := Lib.hid (HBx.trans (hb3.mono HBx.size))
          clear hb3 hA2 HBx
          obtain ⟨y, hy⟩ : ∃ y, lookB k t.parts[j] = y := ⟨_, rfl⟩
          rw [hy] at HTs hv ⊢
          have HHv := Lib.hid hv
          clear hv
          cases y
          · obtain rfl := HHv.out rfl
            go_wp2_with fail
            exact ⟨⟨j + 1, by omega, by go_num, rfl, rfl, HTs, HA, HB⟩, by simp [intOf]; omega⟩
          · have hT : Hid (lookB (k + 1) t = true) := Lib.hid (by
              rw [HLb.out, List.any_eq_true]
              exact ⟨_, List.getElem_mem hlt, hy⟩)
            go_wp2_with fail
            go_ret2
            exact ⟨v, by rw [hT.out]; rfl, fun q => (by rw [hT.out] at q; cases q), HB.out⟩
        · obtain rfl : j = t.parts.length := by omega
          have hT : Hid (lookB (k + 1) t = false) := Lib.hid (by rw [HLb.out]; have := HT.out; rwa [List.take_length] at this)
          go_wp2_with fail
          go_ret2
          exact ⟨.slice none 0 0, by rw [hT.out]; rfl, fun _ => rfl, hB.out⟩

end Go.Proofs.YtcghclikkeajfaaGreat
