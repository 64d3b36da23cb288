/- tree.Deep, weakly: no more than there are levels, and no more than 41. -/
import Derived.Test.YtjkcbojlopdonaaBelow
namespace Go.Proofs.Ytjkcbojlopdonaa
open Go.RowKit
set_option linter.unusedSimpArgs false
set_option linter.unusedVariables false

set_option maxRecDepth 100000 in
set_option maxHeartbeats 8000000 in
theorem tDeep (k : Nat) (t : Tr) (w : World) (h : Tr.Ins w k t) (hm : massS k t ≤ 4000000) :
    Calls Try.prog 35 #[.agg t.cs.toArray] w fun e w' => ∃ d : Nat, e = .returned (.int .i64 d) ∧ 1 ≤ d ∧ d ≤ 41 ∧ d ≤ k ∧ Below w.heap.size w w' := by
  obtain ⟨k', rfl⟩ : ∃ k', k = k' + 1 := by
    cases k with
    | zero => exact h.1.elim
    | succ k' => exact ⟨k', rfl⟩
  obtain ⟨w1, hw1⟩ : ∃ w1, w1 = w.alloc (.cells t.cs.toArray 35) := ⟨_, rfl⟩
  have hb1 : Below w.heap.size w w1 := by rw [hw1]; exact (Below.refl _ _).alloc (Nat.le_refl _) _
  have hA1 : At w1 w.heap.size 35 t.cs.toArray := by rw [hw1]; exact At.new _ _ _
  have hA1' : At (w.alloc (.cells t.cs.toArray 35)) w.heap.size 35 t.cs.toArray := At.new _ _ _
  obtain ⟨w2, hw2⟩ : ∃ w2, w2 = w1.alloc (.cells t.cs.toArray 35) := ⟨_, rfl⟩
  have hb2 : Below w1.heap.size w1 w2 := by rw [hw2]; exact (Below.refl _ _).alloc (Nat.le_refl _) _
  have hA2 : At w2 w1.heap.size 35 t.cs.toArray := by rw [hw2]; exact At.new _ _ _
  obtain ⟨w3, hw3⟩ : ∃ w3, w3 = w2.alloc (.cells #[.slice (some ⟨w1.heap.size, 0, none⟩) 1 1] 22) := ⟨_, rfl⟩
  have hb3 : Below w2.heap.size w2 w3 := by rw [hw3]; exact (Below.refl _ _).alloc (Nat.le_refl _) _
  have hA3 : At w3 w2.heap.size 22 #[.slice (some ⟨w1.heap.size, 0, none⟩) 1 1] := by rw [hw3]; exact At.new _ _ _
  have hA23 := At.below hA2 hb3 hA2.lt
  have hB : Below w.heap.size w w3 := (hb1.trans (hb2.mono hb1.size)).trans (hb3.mono (Nat.le_trans hb1.size hb2.size))
  have HARG : Hid (ArgAt w3 (.slice (some ⟨w2.heap.size, 0, none⟩) 1 1) ([((.slice (some ⟨w1.heap.size, 0, none⟩) 1 1 : Value), [t])].map (·.1))) := Lib.hid ⟨some ⟨w2.heap.size, 0, none⟩, 1, rfl, fun _ => ⟨w2.heap.size, 0, rfl, hA3.lt, fun i u hu => by rw [Nat.zero_add, hA3.cell]; simpa using hu⟩⟩
  have HPL : Hid (∀ p ∈ [((.slice (some ⟨w1.heap.size, 0, none⟩) 1 1 : Value), [t])], PL w3 (k' + 1) p.1 p.2) := Lib.hid (fun p hp => by
    have : p = ((.slice (some ⟨w1.heap.size, 0, none⟩) 1 1 : Value), [t]) := by simpa using hp
    subst this
    refine ⟨w1.heap.size, 0, 1, rfl, Nat.one_pos, hA23.lt, hA23.free 0, fun j hj i u hu => ?_, fun q hq => ?_⟩
    · have hj' : j < 1 := hj
      obtain rfl : j = 0 := by omega
      show World.cell? _ ⟨w1.heap.size, 0 + 0 * 9 + i, none⟩ = some u
      rw [show 0 + 0 * 9 + i = i by omega, hA23.cell]
      simpa using hu
    · have : q = t := by simpa using hq
      rw [this]; exact h.next hB)
  have HSUM : Hid (([((.slice (some ⟨w1.heap.size, 0, none⟩) 1 1 : Value), [t])].map (fun p => lmS (k' + 1) p.2)).sum ≤ 4000000) := Lib.hid (by simpa [lmS] using hm)
  have HB := Lib.hid hB
  have HW1 := Lib.hid hw1
  have HW2 := Lib.hid hw2
  have HW3 := Lib.hid hw3
  clear hb1 hb2 hb3 hA2 hA3 hA23 hB hw1 hw2 hw3 h hm
  go_enter Try.func35, Try.ntmps35
  go_wp2_with (first
    | (refine wpList_load_row rfl 35 _ rfl w.heap.size rfl 35 t.cs.toArray (0, 0) _ hA1' Try.underlying35 rfl (by kernel_rfl) ?_)
    | (with_reducible show wpList _ _ _ ({ dst := _, op := .buildSlice 22 _ _, type := _, pos := _, after := _, guard := _ } :: _) _ _
       rw [← HW1.out]
       refine wpList_slice_tr rfl _ t rfl rfl ?_
       rw [← HW2.out])
    | fail)
  rw [← HW3.out]
  refine (tBelow k' _ _ w3 HARG.out HPL.out HSUM.out).mono ?_
  rintro e w4 ⟨v, ps, rfl, hv, hp, hs, hb⟩
  have HV := Lib.hid hv
  have HP := Lib.hid hp
  have HS := Lib.hid (Nat.le_trans hs HSUM.out)
  have HB4 := Lib.hid (HB.out.trans (hb.mono HB.out.size))
  clear hv hp hs hb hA1 hA1'
  go_wp2_with fail
  go_loopw [3, 4] (fun v l wr => ∃ (d : Nat) (ps : List (Value × List Tr)), l = .int .i64 d ∧ (1 ≤ d ∧ d ≤ 41 ∧ d ≤ k' + 1) ∧ Hid (ArgAt wr v (ps.map (·.1))) ∧ Hid (∀ p ∈ ps, PL wr (k' + 1 - d) p.1 p.2) ∧ Hid ((ps.map (fun p => lmS (k' + 1 - d) p.2)).sum ≤ 4000000) ∧ Hid (Below w.heap.size w wr)) (fun _ l _ => 41 - (intOf l).toNat)
  case atStart => exact ⟨1, ps, rfl, ⟨Nat.le_refl _, by omega, by omega⟩, HV, by rw [Nat.add_sub_cancel]; exact HP, by rw [Nat.add_sub_cancel]; exact HS, HB4⟩
  case round =>
    clear HV HP HS HB4 HARG HPL HSUM HB HW1 HW2 HW3
    obtain ⟨d, ps, rfl, hd, HV, HP, HS, HB⟩ := hrel
    obtain ⟨A, cap, hv, _⟩ := id HV.out
    rw [List.length_map] at hv
    subst hv
    by_cases hd40 : d ≤ 40
    · have hdd : (d : Int) ≤ 40 := by omega
      by_cases h0 : ps.length = 0
      · rw [h0]
        clear h0
        go_wp2_with fail
        go_ret
        exact ⟨d, rfl, hd.1, hd.2.1, hd.2.2, HB.out⟩
      · have h0' : (0 : Int) < (ps.length : Int) := by omega
        have hkd : k' + 1 - d = (k' - d) + 1 := by
          obtain ⟨p, hp⟩ : ∃ p, p ∈ ps := List.exists_mem_of_length_pos (by omega)
          obtain ⟨_, _, _, _, hm, _, _, _, hin⟩ := HP.out p hp
          obtain ⟨q, hq⟩ : ∃ q, q ∈ p.2 := List.exists_mem_of_length_pos hm
          have := (hin q hq).1
          rcases Nat.lt_or_ge d (k' + 1) with x | x
          · omega
          · rw [show k' + 1 - d = 0 by omega] at this; exact this.elim
        have HKD := Lib.hid hkd
        have HP' : Hid (∀ p ∈ ps, PL wr ((k' - d) + 1) p.1 p.2) := by rw [← hkd]; exact HP
        have HS' : Hid ((ps.map (fun p => lmS ((k' - d) + 1) p.2)).sum ≤ 4000000) := by rw [← hkd]; exact HS
        clear hkd h0
        go_wp2_with fail
        refine (tBelow (k' - d) _ ps wr HV.out HP'.out HS'.out).mono ?_
        rintro e w4 ⟨v, ps2, rfl, hv, hp, hs, hb⟩
        have HV4 := Lib.hid hv
        have HP4 := Lib.hid hp
        have HS4 := Lib.hid (Nat.le_trans hs HS'.out)
        have HB4 := Lib.hid (HB.out.trans (hb.mono HB.out.size))
        clear hv hp hs hb
        go_wp2_with fail
        have hk2 : k' + 1 - (d + 1) = k' - d := by omega
        exact ⟨⟨d + 1, ps2, by go_num, ⟨by omega, by omega, by have := HKD.out; omega⟩, HV4, by rw [hk2]; exact HP4, by rw [hk2]; exact HS4, HB4⟩, by simp [intOf]; omega⟩
    · have hdd : ¬ (d : Int) ≤ 40 := by omega
      obtain rfl : d = 41 := by omega
      go_wp2_with fail
      go_ret
      exact ⟨41, rfl, hd.1, hd.2.1, hd.2.2, HB.out⟩

end Go.Proofs.Ytjkcbojlopdonaa
