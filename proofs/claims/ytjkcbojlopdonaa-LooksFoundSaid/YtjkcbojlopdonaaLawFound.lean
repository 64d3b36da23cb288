/- LooksFound, awake. -/
import Derived.Test.YtjkcbojlopdonaaFound
namespace Go.Proofs.Ytjkcbojlopdonaa
open Go.RowKit
set_option linter.unusedSimpArgs false
set_option linter.unusedVariables false

def negT (b : Bool) : Tr → Tr | .node k s A n c p l h _ => .node k s A n c p l h b
theorem negT_cs (b : Bool) (t : Tr) : (negT b t).cs.toArray = t.cs.toArray.setIfInBounds 8 (.bool b) := by cases t; rfl
theorem negT_ins {w : World} {b : Bool} : ∀ {k : Nat} {t : Tr}, Tr.Ins w k t → Tr.Ins w k (negT b t)
  | 0, _, h => h
  | k + 1, t, h => by cases t; exact h
theorem bare_neg (b : Bool) (t : Tr) : bareT (negT b t) = bareT t := by cases t; rfl
theorem in_lv {w : World} : ∀ (m K : Nat) (t : Tr), Tr.In w K t → Tr.Lv m t → Tr.In w m t
  | 0, _, _, _, h => h.elim
  | m + 1, 0, _, h, _ => h.elim
  | m + 1, K + 1, t, h, hl => ⟨h.1, h.2.1, h.2.2.1, fun j hj => in_lv m K _ (h.2.2.2 j hj) (hl _ (List.getElem_mem hj))⟩
theorem ins_lv {w : World} {m K : Nat} {t : Tr} (h : Tr.Ins w K t) (hl : Tr.Lv m t) : Tr.Ins w m t := ⟨in_lv m K t h.1 hl, sol_any K m t (in_lv m K t h.1 hl) h.2 h.1⟩
theorem ins_looksR {w : World} {M K : Nat} : ∀ (k : Nat) (L : List Tr) (t : Tr), k ≤ K → Tr.Ins w k t → (∀ q ∈ L, Tr.Ins w K q) → ∀ q ∈ looksR M k L t, Tr.Ins w K q
  | 0, _, _, _, h, _ => h.1.elim
  | k + 1, L, t, hk, h, hL => by
    have hf : ∀ (l : List Tr) (L : List Tr), (∀ p ∈ l, Tr.Ins w k p) → (∀ q ∈ L, Tr.Ins w K q) → ∀ q ∈ l.foldl (looksR M k) L, Tr.Ins w K q := by
      intro l
      induction l with
      | nil => exact fun L _ h => h
      | cons p l ih =>
        intro L hl hL
        rw [List.foldl_cons]
        exact ih _ (fun q hq => hl q (List.mem_cons_of_mem _ hq)) (ins_looksR k L p (by omega) (hl p (by simp)) hL)
    have h2 := hf t.parts L (fun p hp => by
      obtain ⟨j, hj, rfl⟩ := List.getElem_of_mem hp
      exact ⟨h.1.2.2.2 j hj, h.2.2 _ hp⟩) hL
    unfold looksR
    split
    · exact h2
    · unfold oneR
      split
      · exact h2
      · intro q hq
        rcases List.mem_append.1 hq with hq | hq
        · exact h2 q hq
        · rw [List.mem_singleton.1 hq]; exact (bare_ins h).upto hk
theorem ins_all {w : World} {K : Nat} : ∀ (l W : List Tr), (∀ t ∈ l, Tr.Ins w K t) → (∀ q ∈ W, Tr.Ins w K q) → ∀ q ∈ l.foldl (looksR K K) W, Tr.Ins w K q
  | [], _, _, h => h
  | t :: l, W, h, hW => by
    rw [List.foldl_cons]
    exact ins_all l _ (fun q hq => h q (List.mem_cons_of_mem _ hq)) (ins_looksR K W t (Nat.le_refl _) (h t (by simp)) hW)
theorem pats_one {w : World} {g K : Nat} {t : Tr} (h : At w g 35 t.cs.toArray) (hi : Tr.In w K t) : Pats w K (.slice (some ⟨g, 0, none⟩) 1 1) [t] :=
  ⟨some ⟨g, 0, none⟩, 1, rfl, fun _ => ⟨g, 0, rfl, h.lt, fun j hj i u hu => by
    have hj' : j < 1 := hj
    obtain rfl : j = 0 := by omega
    show World.cell? _ ⟨g, 0 + 0 * 9 + i, none⟩ = some u
    rw [show 0 + 0 * 9 + i = i by omega, h.cell]
    simpa using hu⟩, fun s hs => by rw [List.mem_singleton.1 hs]; exact hi⟩

set_option maxRecDepth 100000 in
set_option maxHeartbeats 8000000 in
theorem lawAwake13 (w : World) : Calls Try.prog 4 #[] w fun e w' => e = .returned (.bool true) ∧ Below w.heap.size w w' := by
  obtain ⟨w1, hw1⟩ : ∃ w1, w1 = w.alloc (.cells (leafT 10).cs.toArray 35) := ⟨_, rfl⟩
  have hb1 : Below w.heap.size w w1 := by rw [hw1]; exact (Below.refl _ _).alloc (Nat.le_refl _) _
  have hA1 : At w1 w.heap.size 35 (leafT 10).cs.toArray := by rw [hw1]; exact At.new _ _ _
  have h64 : I64 10 := by unfold I64; omega
  have hlf : ∀ W : World, Tr.Ins W 40 (leafT 10) := fun W => leaf_in W 10 h64 39
  have HM := Lib.hid (tMake 40 (.slice (some ⟨w.heap.size, 0, none⟩) 1 1) [leafT 10] w1 (pats_one hA1 (hlf w1).1) (fun t ht => by rw [List.mem_singleton.1 ht]; exact hlf w1) (by simp))
  have HB1 := Lib.hid hb1
  have HW1 := Lib.hid hw1
  have HLf := Lib.hid hlf
  clear hb1 hA1 hw1 h64 hlf
  go_enter Try.func4, Try.ntmps4
  go_wp2_with (first
    | (with_reducible show wpList _ _ _ ({ dst := some 5, op := .buildSlice 22 _ _, type := _, pos := _, after := _, guard := _ } :: _) _ _
       refine wpList_slice_tr rfl _ (leafT 10) rfl rfl ?_
       rw [← HW1.out])
    | fail)
  refine HM.out.mono ?_
  rintro e w2 ⟨v, L, er, rfl, hb, hlk, hc⟩
  have hf : isFormed 40 (leafT 10) = true := by kernel_rfl
  have hall : refAll [leafT 10] = [leafT 10] := rfl
  have hr : er = 0 ∧ RelL L [leafT 10] := by
    rcases hc with ⟨_, _, t, ht, h⟩ | ⟨_, h⟩
    · rw [List.mem_singleton.1 ht, hf] at h; cases h
    · rw [hall] at h
      rcases h with ⟨_, _, h⟩ | ⟨h1, _, h2⟩
      · exact absurd h (by decide)
      · exact ⟨h1, h2⟩
  obtain ⟨rfl, hrel⟩ := hr
  have hl1 : L.length = 1 := hrel.length
  obtain ⟨A, c, rfl, _, _⟩ := id hlk.1
  have HB2 := Lib.hid (HB1.out.trans (hb.mono HB1.out.size))
  have HLk := Lib.hid hlk
  have hz : idxS L (leafT 10) = 0 := by
    have hu : Uniq [leafT 10] := by rw [← hall]; exact uniq_all (fun t ht => by rw [List.mem_singleton.1 ht]; exact (HLf.out w2).1.lv)
    exact idx_at hrel hu (i := 0) (by simp) rfl
  have HZ := Lib.hid hz
  have hal : Below w2.heap.size w2 (w2.alloc (.cells #[.slice A L.length c] 26)) := (Below.refl _ _).alloc (Nat.le_refl _) _
  have HIx := Lib.hid (tIndex (.slice A L.length c) L (leafT 10) (w2.alloc (.cells #[.slice A L.length c] 26)) (hlk.next hal) (by omega) (HLf.out _))
  have HB3 := Lib.hid (HB2.out.trans (hal.mono HB2.out.size))
  rw [HZ.out] at HIx
  have hA3 : At (w2.alloc (.cells #[.slice A L.length c] 26)) w2.heap.size 26 #[.slice A L.length c] := At.new _ _ _
  rw [hl1] at HIx hA3 HB3 ⊢
  have x0 := hA3.cell 0
  clear hb hlk hc hf hall hrel hl1 hz hal
  go_wp2_with (first
    | (with_reducible show wpList _ _ _ ({ dst := some 18, op := .load 26 _, type := _, pos := _, after := _, guard := _ } :: _) _ _
       refine wpList_load_row_want (by rfl) 26 _ rfl w2.heap.size rfl 26 #[.slice A 1 c] (0, 0) _ hA3 Try.underlying26 rfl (by kernel_rfl) ?_)
    | fail)
  refine HIx.out.mono ?_
  rintro e w4 ⟨rfl, hb4⟩
  have HB4 := Lib.hid (HB3.out.trans (hb4.mono HB3.out.size))
  clear hb4 hA3 x0
  go_wp2_with fail
  go_ret
  exact ⟨rfl, HB4.out⟩

set_option maxRecDepth 100000 in
set_option maxHeartbeats 16000000 in
theorem lawFound (kk : Nat) (hK : 40 ≤ kk) (v : Value) (l : List Tr) (w : World) (hv : Pats w kk v l) (hin : ∀ t ∈ l, Tr.Ins w kk t) (hl63 : l.length ≤ 9223372036854775807) :
    Calls Try.prog 3 #[v] w fun e w' => e = .returned (.bool true) ∧ Below w.heap.size w w' := by
  have HAw := fun W => Lib.hid (lawAwake13 W)
  have HFw := fun W h => Lib.hid (lawFew13 kk v l W h hl63)
  have HP := Lib.hid hv
  have HI := Lib.hid hin
  have HKk := Lib.hid hK
  have HIw0 := Lib.hid (ins_all l [] hin (fun q h => absurd h List.not_mem_nil))
  obtain ⟨A, c, rfl, hrow, _⟩ := id hv
  have HR := Lib.hid hrow
  clear hv hin hrow hK
  go_enter Try.func3, Try.ntmps3
  go_wp2_with fail
  refine (HAw _).out.mono ?_
  rintro e w1 ⟨rfl, hb1⟩
  have HB1 := Lib.hid hb1
  clear hb1
  go_wp2_with fail
  refine (HFw _ (HP.out.next HB1.out)).out.mono ?_
  rintro e w2 ⟨r, rfl, hfew, hb2⟩
  have HB2 := Lib.hid (HB1.out.trans (hb2.mono HB1.out.size))
  clear hb2
  cases r with
  | false =>
    clear hfew
    go_wp2_with fail
    refine (HAw _).out.mono ?_
    rintro e w3 ⟨rfl, hb3⟩
    have HB3 := Lib.hid (HB2.out.trans (hb3.mono HB2.out.size))
    clear hb3
    go_wp2_with fail
    go_ret
    exact ⟨rfl, HB3.out⟩
  | true =>
    have HFew := Lib.hid (hfew rfl)
    have HM := Lib.hid (tMake kk (.slice A l.length c) l w2 (HP.out.next HB2.out) (fun t ht => (HI.out t ht).next HB2.out) (by have := HFew.out.1; omega))
    have h20 : l.length ≤ 20 := HFew.out.1
    clear hfew
    go_wp2_with fail
    refine HM.out.mono ?_
    rintro e w3 ⟨vL, L, er, rfl, hb3, hlk, hc⟩
    obtain ⟨AL, cL, rfl, hrL, _⟩ := id hlk.1
    obtain ⟨w4, hw4⟩ : ∃ w4, w4 = w3.alloc (.cells #[.slice AL L.length cL] 26) := ⟨_, rfl⟩
    have hb4 : Below w3.heap.size w3 w4 := by rw [hw4]; exact (Below.refl _ _).alloc (Nat.le_refl _) _
    have hA4 : At w4 w3.heap.size 26 #[.slice AL L.length cL] := by rw [hw4]; exact At.new _ _ _
    have hb24 := HB2.out.trans ((hb3.trans (hb4.mono hb3.size)).mono HB2.out.size)
    have HB4 := Lib.hid hb24
    have HA4 := Lib.hid hA4
    have HLk := Lib.hid (hlk.next hb4)
    have HC := Lib.hid hc
    have HW4 := Lib.hid hw4
    obtain ⟨gp, hgp⟩ : ∃ gp, gp = w3.heap.size := ⟨_, rfl⟩
    clear hb3 hlk hc hrL hb4 hA4 hb24 hw4
    go_wp2_with fail
    rw [← HW4.out]
    rw [← hgp] at HA4 ⊢
    clear hgp HW4
    go_loopw [25] (fun i wr => ∃ j : Nat, j ≤ l.length ∧ i = .int .i64 j ∧ Hid (∀ t ∈ l.take j, isFormed kk t = true) ∧ Hid (Below w4.heap.size w4 wr)) (fun i _ => l.length - (intOf i).toNat)
    case atStart => exact ⟨0, Nat.zero_le _, rfl, Lib.hid (fun t ht => by rw [List.take_zero] at ht; cases ht), Lib.hid (Below.refl _ _)⟩
    case round =>
      obtain ⟨j, hj, rfl, HF, HB⟩ := hrel
      have HBw := Lib.hid (HB4.out.trans (HB.out.mono HB4.out.size))
      by_cases hlt : j < l.length
      · obtain ⟨b1, o1, rfl, hb1, hr1⟩ := HR.out (by omega)
        have HX := Lib.hid (range_below (hr1 j hlt) hb1 (Nat.le_refl _) HBw.out)
        have hjz : (0 : Int) ≤ (j : Int) := by omega
        have hjn : (j : Int) < (l.length : Int) := by omega
        have HTk : Hid (l.take (j + 1) = l.take j ++ [l[j]]) := Lib.hid (List.take_succ_eq_append_getElem hlt)
        have HIn := Lib.hid ((HI.out _ (List.getElem_mem hlt)).next HBw.out)
        have HMe := Lib.hid (List.getElem_mem hlt)
        obtain ⟨q, hq⟩ : ∃ q, q = l[j] := ⟨_, rfl⟩
        rw [← hq] at HX HTk HIn HMe
        clear hb1 hr1 hq
        go_wp2_with (refine wpList_load_mid rfl 35 _ rfl b1 (o1 + j * 9) rfl q.cs _ HX.out Try.underlying35 rfl (by rw [Tr.cs_length]; kernel_rfl) ?_)
        refine (refFormed kk q wr HIn.out.1).mono ?_
        rintro e w5 ⟨rfl, hb5⟩
        have HB5 := Lib.hid (HB.out.trans (hb5.mono HB.out.size))
        clear hb5
        obtain ⟨r, hrr⟩ : ∃ r, r = isFormed kk q := ⟨_, rfl⟩
        have HRr := Lib.hid hrr
        rw [← hrr]
        clear hrr
        cases r with
        | true =>
          go_wp2_with fail
          exact ⟨⟨j + 1, by omega, by go_num, Lib.hid (fun t ht => by
            rw [HTk.out] at ht
            rcases List.mem_append.1 ht with ht | ht
            · exact HF.out t ht
            · rw [List.mem_singleton.1 ht]; exact HRr.out.symm), HB5⟩, by simp [intOf]; omega⟩
        | false =>
          have hx : er = 1 ∧ L = [] := by
            rcases HC.out with ⟨a, b, _⟩ | ⟨h, _⟩
            · exact ⟨a, b⟩
            · have := h q HMe.out; rw [← HRr.out] at this; cases this
          obtain ⟨rfl, rfl⟩ := hx
          have x0 := (At.below HA4.out HB5.out HA4.out.lt).cell 0
          go_wp2_with fail
          go_ret
          exact ⟨rfl, HB4.out.trans (HB5.out.mono HB4.out.size)⟩
      · obtain rfl : j = l.length := by omega
        have hall : ∀ t ∈ l, isFormed kk t = true := by have h := HF.out; rw [List.take_length] at h; exact h
        have hc : (er = 10 ∧ L = [] ∧ 4 < (refAll l).length) ∨ (er = 0 ∧ (refAll l).length ≤ 4 ∧ RelL L (refAll l)) := by
          rcases HC.out with ⟨_, _, t, ht, h⟩ | ⟨_, h⟩
          · rw [hall t ht] at h; cases h
          · exact h
        have h40 : ∀ t ∈ l, Tr.Lv kk t ∧ Tr.Lv 40 t := fun t ht => ⟨(HI.out t ht).1.lv, (formed_in (HI.out t ht) (hall t ht)).2.1⟩
        have HEq : Hid (l.foldl (looksR kk kk) [] = refAll l) := Lib.hid (refAll_eq HKk.out l [] h40 (fun q h => absurd h List.not_mem_nil))
        have HU : Hid (Uniq (refAll l)) := Lib.hid (uniq_all (fun t ht => (h40 t ht).2))
        have HC2 := Lib.hid hc
        obtain ⟨wa, hwa⟩ : ∃ wa, wa = wr := ⟨_, rfl⟩
        rw [← hwa] at HB HBw ⊢
        clear hwa hall hc h40
        go_wp2_with fail
        go_loopw [5, 45] (fun u i wr => ∃ (j : Nat) (W : List Tr), j ≤ l.length ∧ i = .int .i64 j ∧ Hid (W = (l.take j).foldl (looksR kk kk) []) ∧ Hid (W.length ≤ 2000 * j) ∧ Hid (Pats wr kk u W) ∧ Hid (Below wa.heap.size wa wr)) (fun _ i _ => l.length - (intOf i).toNat)
        case atStart => exact ⟨0, [], Nat.zero_le _, rfl, Lib.hid (by rw [List.take_zero]; rfl), Lib.hid (Nat.zero_le _), Lib.hid (Pats.nil _ _), Lib.hid (Below.refl _ _)⟩
        case round =>
          obtain ⟨j, W, hj, rfl, HWe, HWl, HPw, HBa⟩ := hrel
          have HBv := Lib.hid (HBw.out.trans (HBa.out.mono HBw.out.size))
          by_cases hlt : j < l.length
          · obtain ⟨b1, o1, rfl, hb1, hr1⟩ := HR.out (by omega)
            have HX := Lib.hid (range_below (hr1 j hlt) hb1 (Nat.le_refl _) HBv.out)
            have hjz : (0 : Int) ≤ (j : Int) := by omega
            have hjn : (j : Int) < (l.length : Int) := by omega
            have HTk := Lib.hid (foldl_take (f := looksR kk kk) (W := []) hlt)
            have HIn := Lib.hid ((HI.out _ (List.getElem_mem hlt)).next HBv.out)
            have hnd := HFew.out.2 _ (List.getElem_mem hlt)
            have hnn := few_nodes kk 60 _ HIn.out.1 (by decide) hnd
            obtain ⟨q, hq⟩ : ∃ q, q = l[j] := ⟨_, rfl⟩
            rw [← hq] at HX HTk HIn hnd hnn
            have HNd : Hid (nodesN kk q ≤ 2000) := Lib.hid (by omega)
            clear hb1 hr1 hq hnd hnn
            have HC3 := Lib.hid (refLooksW kk kk q u5 W wr (Nat.le_refl _) HIn.out.1 HPw.out (by have := HNd.out; have := HWl.out; omega))
            go_wp2_with (refine wpList_load_mid rfl 35 _ rfl b1 (o1 + j * 9) rfl q.cs _ HX.out Try.underlying35 rfl (by rw [Tr.cs_length]; kernel_rfl) ?_)
            refine HC3.out.mono ?_
            rintro e w6 ⟨v6, W6, rfl, hp6, hl6, he6, hb6⟩
            have HP6 := Lib.hid hp6
            have HL6 : Hid (W6.length ≤ 2000 * (j + 1)) := Lib.hid (by have := HNd.out; have := HWl.out; omega)
            have HE6 : Hid (W6 = (l.take (j + 1)).foldl (looksR kk kk) []) := Lib.hid (by rw [HTk.out, ← HWe.out]; exact he6)
            have HB6 := Lib.hid (HBa.out.trans (hb6.mono HBa.out.size))
            clear hp6 hl6 he6 hb6
            go_wp2_with fail
            exact ⟨⟨j + 1, W6, by omega, by go_num, HE6, HL6, HP6, HB6⟩, by simp [intOf]; omega⟩
          · obtain rfl : j = l.length := by omega
            have hWe : W = refAll l := by have h := HWe.out; rw [List.take_length] at h; rw [h]; exact HEq.out
            have HBb := Lib.hid (HB.out.trans (HBa.out.mono HB.out.size))
            have HA5 := Lib.hid (At.below HA4.out HBb.out HA4.out.lt)
            have HLk5 := Lib.hid (HLk.out.next HBb.out)
            obtain ⟨AW, cW, rfl, hrW, _⟩ := id HPw.out
            have HRW := Lib.hid hrW
            have x0 := HA5.out.cell 0
            obtain ⟨wb, hwb⟩ : ∃ wb, wb = wr := ⟨_, rfl⟩
            rw [← hwb] at HPw HBa HBv HBb HA5 HLk5 HRW x0 ⊢
            have HWq := Lib.hid hWe
            have hl63W : W.length ≤ 40000 := by have := HWl.out; omega
            clear hwb hrW hWe HWe
            rcases HC2.out with ⟨he, hL, h4⟩ | ⟨he, h4, hrel⟩
            · subst he
              subst hL
              have d4 : decide ((4 : Int) < (W.length : Int)) = true := decide_eq_true (by rw [HWq.out]; omega)
              clear h4
              go_wp2_with fail
              go_ret
              exact ⟨rfl, HBv.out⟩
            · subst he
              have d4 : decide ((4 : Int) < (W.length : Int)) = false := decide_eq_false (by rw [HWq.out]; omega)
              have hLW : L.length = W.length := by rw [HWq.out]; exact hrel.length
              have HRel : Hid (RelL L W) := Lib.hid (by rw [HWq.out]; exact hrel)
              have HUW : Hid (Uniq W) := Lib.hid (by rw [HWq.out]; exact HU.out)
              have dl := (int_eq (show (L.length : Int) = (W.length : Int) by omega)).2
              have HLW := Lib.hid hLW
              have HIw : Hid (∀ q ∈ W, Tr.Ins w kk q) := Lib.hid (by rw [HWq.out, ← HEq.out]; exact HIw0.out)
              have HF4 : Hid (L.length ≤ 4) := Lib.hid (by rw [hrel.length]; exact h4)
              have HLa := Lib.hid (tLate (.slice AL L.length cL) L wb HLk5.out (by have := HF4.out; omega))
              clear h4 hrel hLW
              go_wp2_with (first
                | (with_reducible show wpList _ _ _ ({ dst := some 77, op := .load 26 _, type := _, pos := _, after := _, guard := _ } :: _) _ _
                   refine wpList_load_row_want (by rfl) 26 _ rfl gp rfl 26 #[.slice AL L.length cL] (0, 0) _ HA5.out Try.underlying26 rfl (by kernel_rfl) ?_)
                | fail)
              refine HLa.out.mono ?_
              rintro e w7 ⟨rfl, hb7⟩
              have HB7 := Lib.hid hb7
              clear hb7
              go_wp2_with fail
              refine (refLate kk (.slice AW W.length cW) W w7 (HPw.out.next HB7.out) (by omega)).mono ?_
              rintro e w8 ⟨rfl, hb8⟩
              have hlate := late_rel HRel.out
              rw [hlate]
              have HB8 := Lib.hid (HB7.out.trans (hb8.mono HB7.out.size))
              clear hb8 hlate
              generalize W.any (fun q => decide (q.kind = 8) || decide (q.kind = 11)) = bb
              have dbb := (bool_eq (rfl : bb = bb)).2
              have HPw8 := Lib.hid (HPw.out.next HB8.out)
              have HA8 := Lib.hid (At.below HA5.out HB8.out HA5.out.lt)
              have HLk8 := Lib.hid (HLk5.out.next HB8.out)
              have HBv8 := Lib.hid (HBv.out.trans (HB8.out.mono HBv.out.size))
              clear x0
              go_wp2_with fail
              obtain ⟨wl, hwl⟩ : ∃ wl, wl = w8 := ⟨_, rfl⟩
              clear hwl
              go_loopw [85] (fun x wr => ∃ i : Nat, i ≤ W.length ∧ x = .int .i64 i ∧ Hid (Below w8.heap.size w8 wr)) (fun x _ => W.length - (intOf x).toNat)
              case atStart => exact ⟨0, Nat.zero_le _, rfl, Lib.hid (Below.refl _ _)⟩
              case round =>
                obtain ⟨i, hi, rfl, HB⟩ := hrel
                have HAr := Lib.hid (At.below HA8.out HB.out HA8.out.lt)
                have HLkr := Lib.hid (HLk8.out.next HB.out)
                by_cases hiw : i < W.length
                · have hiW := Lib.hid hiw
                  have hiL : i < L.length := by have := HLW.out; omega
                  obtain ⟨AL2, cL2, eL, hrL, _⟩ := id HLkr.out.1
                  injection eL with eL1 _ eL3
                  subst eL1 eL3
                  obtain ⟨bL, oL, rfl, hbL, hrL⟩ := hrL (by omega)
                  obtain ⟨AW2, cW2, eW, hrW, _⟩ := id (HPw8.out.next HB.out)
                  injection eW with eW1 _ eW3
                  subst eW1 eW3
                  obtain ⟨bW, oW, rfl, hbW, hrW⟩ := hrW (by omega)
                  have HXr : Hid (wr.rangeAt bL (oL + i * 9) (L[i]'hiL).cs) := Lib.hid (hrL i hiL)
                  have HYr : Hid (wr.rangeAt bW (oW + i * 9) (W[i]'hiw).cs) := Lib.hid (hrW i hiw)
                  have HXq := Lib.hid hbL
                  have HYq := Lib.hid hbW
                  have hiz : (0 : Int) ≤ (i : Int) := by omega
                  have hin : (i : Int) < (W.length : Int) := by omega
                  have hin2 : (i : Int) < (L.length : Int) := by omega
                  have di := (int_eq (rfl : (i : Int) = (i : Int))).2
                  have HIsr : Hid (Tr.Ins wr kk (W[i]'hiw)) := Lib.hid ((HIw.out _ (List.getElem_mem hiw)).next (HBv8.out.trans (HB.out.mono HBv8.out.size)))
                  have HIs4 := Lib.hid (ins_lv (m := 40) HIsr.out (HUW.out.lv _ (List.getElem_mem hiw)))
                  have HIqr : Hid (Tr.In wr kk (L[i]'hiL)) := Lib.hid ((HLkr.out.2 _ (List.getElem_mem hiL)).ins.upto HKk.out).1
                  have HSm : Hid (sameS kk 41 (L[i]'hiL) (W[i]'hiw) = true) := Lib.hid ((same_iff 40 kk 41 _ _ (HRel.out.2.1 _ (List.getElem_mem hiL)) (HRel.out.2.2 _ (List.getElem_mem hiw)) HKk.out (by decide)).2 (HRel.out.at i hiL hiw))
                  have HBs : Hid (bareT (W[i]'hiw) = (W[i]'hiw)) := Lib.hid (HUW.out.bare _ (List.getElem_mem hiw))
                  have HZ1 : Hid (idxS L (W[i]'hiw) = i) := Lib.hid (idx_at HRel.out HUW.out hiw HBs.out)
                  obtain ⟨q, hq⟩ : ∃ q, q = L[i]'hiL := ⟨_, rfl⟩
                  rw [← hq] at HXr HIqr HSm
                  have HBs2 : Hid (bareT (W[i]'hiw) = W[i]'hiw) := HBs
                  obtain ⟨s, hs⟩ : ∃ s, s = W[i]'hiw := ⟨_, rfl⟩
                  rw [← hs] at HYr HIsr HIs4 HSm HZ1
                  have HBs : Hid (bareT s = W[i]'hiw) := Lib.hid (by rw [hs]; exact HBs2.out)
                  clear hq hs hbL hbW hrL hrW HBs2
                  have hone := Tr.one s
                  have q0 : (boxW wr s).cell? ⟨wr.heap.size, 0, none⟩ = some (.int .i64 s.kind) := (boxW_at wr s).cell 0
                  have q8 : (boxW wr s).cell? ⟨wr.heap.size, 8, none⟩ = some (.bool s.neg) := (boxW_at wr s).cell 8
                  have f8 := (boxW_at wr s).free 8
                  by_cases h8 : s.kind = 8
                  · have d8 := (int_eq h8).1
                    clear h8
                    go_wp2_with (first
                      | (with_reducible show wpList _ _ _ ({ dst := some 91, op := .load 35 _, type := _, pos := _, after := _, guard := _ } :: _) _ _
                         refine wpList_load_mid rfl 35 _ rfl bW (oW + i * 9) rfl s.cs _ HYr.out Try.underlying35 rfl (by rw [Tr.cs_length]; kernel_rfl) ?_)
                      | (with_reducible show wpList _ _ _ ({ dst := none, op := .store 35 (.tmp 9) _, type := _, pos := _, after := _, guard := _ } :: _) _ _
                         refine wpList_store_row rfl 35 _ _ rfl wr.heap.size s.cs.toArray rfl rfl 35 Tr.blank.cs.toArray (At.new _ _ _) (by kernel_rfl) rfl hone ?_
                         change Exit.then _ _ _ _ (boxW wr s))
                      | fail)
                    obtain ⟨wo, hwo⟩ : ∃ wo, wo = (boxW wr s).setCell ⟨wr.heap.size, 8, none⟩ (.bool true) := ⟨_, rfl⟩
                    rw [← hwo]
                    obtain ⟨s9, hs9⟩ : ∃ s9, s9 = negT true s := ⟨_, rfl⟩
                    have hbo : Below wr.heap.size wr wo := by rw [hwo]; exact (boxW_next wr s).setCell (Nat.le_refl _) _
                    have HN9 : Hid (At wo wr.heap.size 35 s9.cs.toArray) := Lib.hid (by rw [hwo, hs9, negT_cs]; exact (boxW_at wr s).set 8 _)
                    have HBx := Lib.hid hbo
                    have HAo := Lib.hid (At.below HAr.out hbo HAr.out.lt)
                    have HLkO := Lib.hid (HLkr.out.next hbo)
                    have HX := Lib.hid (range_below HXr.out HXq.out (Nat.le_refl _) hbo)
                    have HXl : Hid (bL < wo.heap.size) := Lib.hid (Nat.lt_of_lt_of_le HXq.out hbo.size)
                    have HY := Lib.hid (range_below HYr.out HYq.out (Nat.le_refl _) hbo)
                    have HYl : Hid (bW < wo.heap.size) := Lib.hid (Nat.lt_of_lt_of_le HYq.out hbo.size)
                    have HIq := Lib.hid (HIqr.out.next hbo)
                    have HIs := Lib.hid (HIsr.out.next hbo).1
                    have HIs40 := Lib.hid (HIs4.out.next hbo)
                    have HI9 : Hid (Tr.Ins wo 40 s9) := Lib.hid (by rw [hs9]; exact negT_ins (HIs4.out.next hbo))
                    have HZ2 : Hid (idxS L s9 = i) := Lib.hid (idx_at HRel.out HUW.out hiW.out (by rw [hs9, bare_neg]; exact HBs.out))
                    obtain ⟨g9, hg9⟩ : ∃ g9, g9 = wr.heap.size := ⟨_, rfl⟩
                    rw [← hg9] at HN9 ⊢
                    clear hwo hs9 hbo hg9 q0 q8 f8 hone
                    have hBo : Below wo.heap.size wo wo := Below.refl _ _
                    refine wp_region_noPanic ?_
                    refine wp_region_held_drew (S := (fun w' => w'.cell? ⟨gp, 0, none⟩ = some (Value.slice (some ⟨bL, oL, none⟩) L.length cL) ∧ w'.rangeAt bL (oL + i * 9) q.cs ∧ w'.rangeAt bW (oW + i * 9) s.cs ∧ w'.rangeAt gp 0 [(Value.slice (some ⟨bL, oL, none⟩) L.length cL)] ∧ w'.rangeAt g9 0 s9.cs)) (by kernel_rfl) (by first | exact ⟨(At.below HAo.out hBo HAo.out.lt).cell 0, range_below HX.out HXl.out (Nat.le_refl _) hBo, range_below HY.out HYl.out (Nat.le_refl _) hBo, pl_range (At.below HAo.out hBo HAo.out.lt), tr_range (At.below HN9.out hBo HN9.out.lt)⟩ | exact ⟨(At.below HAo.out hBo.drew HAo.out.lt).cell 0, range_below HX.out HXl.out (Nat.le_refl _) hBo.drew, range_below HY.out HYl.out (Nat.le_refl _) hBo.drew, pl_range (At.below HAo.out hBo.drew HAo.out.lt), tr_range (At.below HN9.out hBo.drew HN9.out.lt)⟩) (fun hHeld => ?_)
                    have hBo := hBo.drew
                    refine wpAnyH_take (i := 0) (oi := ⟨some 101, _, _, _, _, _⟩) (v := ?_) rfl (by kernel_rfl) (by kernel_rfl) (by kernel_rfl) (fun _ _ _ h => h) (Or.inl ⟨by rfl, ?_⟩) (by exact hHeld) ?_
                    rotate_left
                    · (intro w hSw; (try dsimp only at hSw); go_simp; try (with_reducible rfl))
                    simp only [Act.put, List.setIfInBounds_toArray, List.set_cons_zero, List.set_cons_succ]
                    refine wpAnyH_take (i := 1) (oi := ⟨some 102, _, _, _, _, _⟩) (v := ?_) rfl (by kernel_rfl) (by kernel_rfl) (by kernel_rfl) (fun _ _ _ h => h) (Or.inl ⟨by rfl, ?_⟩) (by exact hHeld) ?_
                    rotate_left
                    · (intro w hSw; (try dsimp only at hSw); obtain ⟨s0, s1, s2, s3, s4⟩ := hSw; go_simp; try (with_reducible rfl))
                    simp only [Act.put, List.setIfInBounds_toArray, List.set_cons_zero, List.set_cons_succ]
                    refine wpAnyH_take (i := 2) (oi := ⟨some 103, _, _, _, _, _⟩) (v := ?_) rfl (by kernel_rfl) (by kernel_rfl) (by kernel_rfl) (fun _ _ _ h => h) (Or.inl ⟨by rfl, ?_⟩) (by exact hHeld) ?_
                    rotate_left
                    · (intro w hSw; (try dsimp only at hSw); go_simp; try (with_reducible rfl))
                    simp only [Act.put, List.setIfInBounds_toArray, List.set_cons_zero, List.set_cons_succ]
                    refine wpAnyH_take (i := 3) (oi := ⟨some 104, _, _, _, _, _⟩) (v := ?_) rfl (by kernel_rfl) (by kernel_rfl) (by kernel_rfl) (fun _ _ _ h => h) (Or.inl ⟨by rfl, ?_⟩) (by exact hHeld) ?_
                    rotate_left
                    · (intro w hSw; (try dsimp only at hSw); go_simp; try (with_reducible rfl))
                    simp only [Act.put, List.setIfInBounds_toArray, List.set_cons_zero, List.set_cons_succ]
                    refine wpAnyH_take (i := 4) (oi := ⟨some 105, _, _, _, _, _⟩) (v := _) rfl (by kernel_rfl) (by kernel_rfl) (by kernel_rfl) (fun _ _ _ h => h) (yieldsIf_load_mid (by rfl) 35 _ rfl bL (oL + i * 9) rfl q.cs _ (fun _ h => h.2.1) Try.underlying35 rfl (by rw [Tr.cs_length]; kernel_rfl)) (by exact hHeld) ?_
                    simp only [Act.put, List.setIfInBounds_toArray, List.set_cons_zero, List.set_cons_succ]
                    refine wpAnyH_take (i := 5) (oi := ⟨some 106, _, _, _, _, _⟩) (v := ?_) rfl (by kernel_rfl) (by kernel_rfl) (by kernel_rfl) (fun _ _ _ h => h) (Or.inl ⟨by rfl, ?_⟩) (by exact hHeld) ?_
                    rotate_left
                    · (intro w hSw; (try dsimp only at hSw); go_simp; try (with_reducible rfl))
                    simp only [Act.put, List.setIfInBounds_toArray, List.set_cons_zero, List.set_cons_succ]
                    refine wpAnyH_take (i := 6) (oi := ⟨some 107, _, _, _, _, _⟩) (v := ?_) rfl (by kernel_rfl) (by kernel_rfl) (by kernel_rfl) (fun _ _ _ h => h) (Or.inl ⟨by rfl, ?_⟩) (by exact hHeld) ?_
                    rotate_left
                    · (intro w hSw; (try dsimp only at hSw); go_simp; try (with_reducible rfl))
                    simp only [Act.put, List.setIfInBounds_toArray, List.set_cons_zero, List.set_cons_succ]
                    refine wpAnyH_take (i := 7) (oi := ⟨some 108, _, _, _, _, _⟩) (v := ?_) rfl (by kernel_rfl) (by kernel_rfl) (by kernel_rfl) (fun _ _ _ h => h) (Or.inl ⟨by rfl, ?_⟩) (by exact hHeld) ?_
                    rotate_left
                    · (intro w hSw; (try dsimp only at hSw); go_simp; try (with_reducible rfl))
                    simp only [Act.put, List.setIfInBounds_toArray, List.set_cons_zero, List.set_cons_succ]
                    refine wpAnyH_take (i := 8) (oi := ⟨some 109, _, _, _, _, _⟩) (v := _) rfl (by kernel_rfl) (by kernel_rfl) (by kernel_rfl) (fun _ _ _ h => h) (yieldsIf_load_mid (by rfl) 35 _ rfl bW (oW + i * 9) rfl s.cs _ (fun _ h => h.2.2.1) Try.underlying35 rfl (by rw [Tr.cs_length]; kernel_rfl)) (by exact hHeld) ?_
                    simp only [Act.put, List.setIfInBounds_toArray, List.set_cons_zero, List.set_cons_succ]
                    refine wpAnyH_ready (rs := [9]) (by kernel_rfl) (by simp) ?_
                    refine AllReadyH.cons (o := ⟨some 110, _, _, _, _, _⟩) rfl (fun K hK => ?_) AllReadyH.nil
                    go_simp
                    ((with_reducible refine (refSame kk 41 q s _ (by decide) (by decide) (HIq.out.next hBo) (HIs.out.next hBo)).mono ?_))
                    rintro e w5 ⟨rfl, hb5⟩
                    have hBo := below_step hBo hb5 rfl rfl rfl rfl
                    clear hb5
                    rw [HSm.out]
                    dsimp only
                    refine hK.out _ _ ?_ (fun hHeld => ?_)
                    · first | exact ⟨(At.below HAo.out hBo HAo.out.lt).cell 0, range_below HX.out HXl.out (Nat.le_refl _) hBo, range_below HY.out HYl.out (Nat.le_refl _) hBo, pl_range (At.below HAo.out hBo HAo.out.lt), tr_range (At.below HN9.out hBo HN9.out.lt)⟩ | exact ⟨(At.below HAo.out hBo.drew HAo.out.lt).cell 0, range_below HX.out HXl.out (Nat.le_refl _) hBo.drew, range_below HY.out HYl.out (Nat.le_refl _) hBo.drew, pl_range (At.below HAo.out hBo.drew HAo.out.lt), tr_range (At.below HN9.out hBo.drew HN9.out.lt)⟩
                    clear hK K
                    try simp only [Act.put, List.setIfInBounds_toArray, List.set_cons_zero, List.set_cons_succ]
                    refine wpAnyH_take (i := 10) (oi := ⟨some 111, _, _, _, _, _⟩) (v := ?_) rfl (by kernel_rfl) (by kernel_rfl) (by kernel_rfl) (fun _ _ _ h => h) (Or.inl ⟨by rfl, ?_⟩) (by exact hHeld) ?_
                    rotate_left
                    · (intro w hSw; (try dsimp only at hSw); go_simp; try (with_reducible rfl))
                    simp only [Act.put, List.setIfInBounds_toArray, List.set_cons_zero, List.set_cons_succ]
                    refine wpAnyH_take (i := 11) (oi := ⟨some 112, _, _, _, _, _⟩) (v := ?_) rfl (by kernel_rfl) (by kernel_rfl) (by kernel_rfl) (fun _ _ _ h => h) (Or.inl ⟨by rfl, ?_⟩) (by exact hHeld) ?_
                    rotate_left
                    · (intro w hSw; (try dsimp only at hSw); go_simp; try (with_reducible rfl))
                    simp only [Act.put, List.setIfInBounds_toArray, List.set_cons_zero, List.set_cons_succ]
                    refine wpAnyH_take (i := 12) (oi := ⟨some 113, _, _, _, _, _⟩) (v := _) rfl (by kernel_rfl) (by kernel_rfl) (by kernel_rfl) (fun _ _ _ h => h) (yieldsIf_load_mid (by rfl) 26 _ rfl gp 0 rfl [(Value.slice (some ⟨bL, oL, none⟩) L.length cL)] _ (fun _ h => h.2.2.2.1) Try.underlying26 rfl (by kernel_rfl)) (by exact hHeld) ?_
                    simp only [Act.put, List.setIfInBounds_toArray, List.set_cons_zero, List.set_cons_succ]
                    refine wpAnyH_take (i := 13) (oi := ⟨some 114, _, _, _, _, _⟩) (v := ?_) rfl (by kernel_rfl) (by kernel_rfl) (by kernel_rfl) (fun _ _ _ h => h) (Or.inl ⟨by rfl, ?_⟩) (by exact hHeld) ?_
                    rotate_left
                    · (intro w hSw; (try dsimp only at hSw); go_simp; try (with_reducible rfl))
                    simp only [Act.put, List.setIfInBounds_toArray, List.set_cons_zero, List.set_cons_succ]
                    refine wpAnyH_take (i := 14) (oi := ⟨some 115, _, _, _, _, _⟩) (v := ?_) rfl (by kernel_rfl) (by kernel_rfl) (by kernel_rfl) (fun _ _ _ h => h) (Or.inl ⟨by rfl, ?_⟩) (by exact hHeld) ?_
                    rotate_left
                    · (intro w hSw; (try dsimp only at hSw); go_simp; try (with_reducible rfl))
                    simp only [Act.put, List.setIfInBounds_toArray, List.set_cons_zero, List.set_cons_succ]
                    refine wpAnyH_take (i := 15) (oi := ⟨some 116, _, _, _, _, _⟩) (v := ?_) rfl (by kernel_rfl) (by kernel_rfl) (by kernel_rfl) (fun _ _ _ h => h) (Or.inl ⟨by rfl, ?_⟩) (by exact hHeld) ?_
                    rotate_left
                    · (intro w hSw; (try dsimp only at hSw); go_simp; try (with_reducible rfl))
                    simp only [Act.put, List.setIfInBounds_toArray, List.set_cons_zero, List.set_cons_succ]
                    refine wpAnyH_take (i := 16) (oi := ⟨some 117, _, _, _, _, _⟩) (v := _) rfl (by kernel_rfl) (by kernel_rfl) (by kernel_rfl) (fun _ _ _ h => h) (yieldsIf_load_mid (by rfl) 35 _ rfl bW (oW + i * 9) rfl s.cs _ (fun _ h => h.2.2.1) Try.underlying35 rfl (by rw [Tr.cs_length]; kernel_rfl)) (by exact hHeld) ?_
                    simp only [Act.put, List.setIfInBounds_toArray, List.set_cons_zero, List.set_cons_succ]
                    refine wpAnyH_take (i := 18) (oi := ⟨some 119, _, _, _, _, _⟩) (v := ?_) rfl (by kernel_rfl) (by kernel_rfl) (by kernel_rfl) (fun _ _ _ h => h) (Or.inl ⟨by rfl, ?_⟩) (by exact hHeld) ?_
                    rotate_left
                    · (intro w hSw; (try dsimp only at hSw); go_simp; try (with_reducible rfl))
                    simp only [Act.put, List.setIfInBounds_toArray, List.set_cons_zero, List.set_cons_succ]
                    refine wpAnyH_ready (rs := [17]) (by kernel_rfl) (by simp) ?_
                    refine AllReadyH.cons (o := ⟨some 118, _, _, _, _, _⟩) rfl (fun K hK => ?_) AllReadyH.nil
                    go_simp
                    ((with_reducible refine (tIndex (Value.slice (some ⟨bL, oL, none⟩) L.length cL) L s _ (HLkO.out.next hBo) (by have := HF4.out; omega) (HIs40.out.next hBo)).mono ?_))
                    rintro e w6 ⟨rfl, hb6⟩
                    have hBo := below_step hBo hb6 rfl rfl rfl rfl
                    clear hb6
                    rw [HZ1.out]
                    dsimp only
                    refine hK.out _ _ ?_ (fun hHeld => ?_)
                    · first | exact ⟨(At.below HAo.out hBo HAo.out.lt).cell 0, range_below HX.out HXl.out (Nat.le_refl _) hBo, range_below HY.out HYl.out (Nat.le_refl _) hBo, pl_range (At.below HAo.out hBo HAo.out.lt), tr_range (At.below HN9.out hBo HN9.out.lt)⟩ | exact ⟨(At.below HAo.out hBo.drew HAo.out.lt).cell 0, range_below HX.out HXl.out (Nat.le_refl _) hBo.drew, range_below HY.out HYl.out (Nat.le_refl _) hBo.drew, pl_range (At.below HAo.out hBo.drew HAo.out.lt), tr_range (At.below HN9.out hBo.drew HN9.out.lt)⟩
                    clear hK K
                    try simp only [Act.put, List.setIfInBounds_toArray, List.set_cons_zero, List.set_cons_succ]
                    refine wpAnyH_take (i := 19) (oi := ⟨some 120, _, _, _, _, _⟩) (v := ?_) rfl (by kernel_rfl) (by kernel_rfl) (by kernel_rfl) (fun _ _ _ h => h) (Or.inl ⟨by rfl, ?_⟩) (by exact hHeld) ?_
                    rotate_left
                    · (intro w hSw; (try dsimp only at hSw); go_simp; try (with_reducible rfl))
                    simp only [Act.put, List.setIfInBounds_toArray, List.set_cons_zero, List.set_cons_succ]
                    refine wpAnyH_take (i := 20) (oi := ⟨some 121, _, _, _, _, _⟩) (v := ?_) rfl (by kernel_rfl) (by kernel_rfl) (by kernel_rfl) (fun _ _ _ h => h) (Or.inl ⟨by rfl, ?_⟩) (by exact hHeld) ?_
                    rotate_left
                    · (intro w hSw; (try dsimp only at hSw); go_simp; try (with_reducible rfl))
                    simp only [Act.put, List.setIfInBounds_toArray, List.set_cons_zero, List.set_cons_succ]
                    refine wpAnyH_take (i := 21) (oi := ⟨some 122, _, _, _, _, _⟩) (v := ?_) rfl (by kernel_rfl) (by kernel_rfl) (by kernel_rfl) (fun _ _ _ h => h) (Or.inl ⟨by rfl, ?_⟩) (by exact hHeld) ?_
                    rotate_left
                    · (intro w hSw; (try dsimp only at hSw); go_simp; try (with_reducible rfl))
                    simp only [Act.put, List.setIfInBounds_toArray, List.set_cons_zero, List.set_cons_succ]
                    refine wpAnyH_take (i := 22) (oi := ⟨some 123, _, _, _, _, _⟩) (v := _) rfl (by kernel_rfl) (by kernel_rfl) (by kernel_rfl) (fun _ _ _ h => h) (yieldsIf_load_mid (by rfl) 26 _ rfl gp 0 rfl [(Value.slice (some ⟨bL, oL, none⟩) L.length cL)] _ (fun _ h => h.2.2.2.1) Try.underlying26 rfl (by kernel_rfl)) (by exact hHeld) ?_
                    simp only [Act.put, List.setIfInBounds_toArray, List.set_cons_zero, List.set_cons_succ]
                    refine wpAnyH_take (i := 23) (oi := ⟨some 124, _, _, _, _, _⟩) (v := _) rfl (by kernel_rfl) (by kernel_rfl) (by kernel_rfl) (fun _ _ _ h => h) (yieldsIf_load_mid (by rfl) 35 _ rfl g9 0 rfl s9.cs _ (fun _ h => h.2.2.2.2) Try.underlying35 rfl (by rw [Tr.cs_length]; kernel_rfl)) (by exact hHeld) ?_
                    simp only [Act.put, List.setIfInBounds_toArray, List.set_cons_zero, List.set_cons_succ]
                    refine wpAnyH_take (i := 25) (oi := ⟨some 126, _, _, _, _, _⟩) (v := ?_) rfl (by kernel_rfl) (by kernel_rfl) (by kernel_rfl) (fun _ _ _ h => h) (Or.inl ⟨by rfl, ?_⟩) (by exact hHeld) ?_
                    rotate_left
                    · (intro w hSw; (try dsimp only at hSw); go_simp; try (with_reducible rfl))
                    simp only [Act.put, List.setIfInBounds_toArray, List.set_cons_zero, List.set_cons_succ]
                    refine wpAnyH_ready (rs := [24]) (by kernel_rfl) (by simp) ?_
                    refine AllReadyH.cons (o := ⟨some 125, _, _, _, _, _⟩) rfl (fun K hK => ?_) AllReadyH.nil
                    go_simp
                    ((with_reducible refine (tIndex (Value.slice (some ⟨bL, oL, none⟩) L.length cL) L s9 _ (HLkO.out.next hBo) (by have := HF4.out; omega) (HI9.out.next hBo)).mono ?_))
                    rintro e w6 ⟨rfl, hb6⟩
                    have hBo := below_step hBo hb6 rfl rfl rfl rfl
                    clear hb6
                    rw [HZ2.out]
                    dsimp only
                    refine hK.out _ _ ?_ (fun hHeld => ?_)
                    · first | exact ⟨(At.below HAo.out hBo HAo.out.lt).cell 0, range_below HX.out HXl.out (Nat.le_refl _) hBo, range_below HY.out HYl.out (Nat.le_refl _) hBo, pl_range (At.below HAo.out hBo HAo.out.lt), tr_range (At.below HN9.out hBo HN9.out.lt)⟩ | exact ⟨(At.below HAo.out hBo.drew HAo.out.lt).cell 0, range_below HX.out HXl.out (Nat.le_refl _) hBo.drew, range_below HY.out HYl.out (Nat.le_refl _) hBo.drew, pl_range (At.below HAo.out hBo.drew HAo.out.lt), tr_range (At.below HN9.out hBo.drew HN9.out.lt)⟩
                    clear hK K
                    try simp only [Act.put, List.setIfInBounds_toArray, List.set_cons_zero, List.set_cons_succ]
                    refine wpAnyH_take (i := 26) (oi := ⟨some 127, _, _, _, _, _⟩) (v := ?_) rfl (by kernel_rfl) (by kernel_rfl) (by kernel_rfl) (fun _ _ _ h => h) (Or.inl ⟨by rfl, ?_⟩) (by exact hHeld) ?_
                    rotate_left
                    · (intro w hSw; (try dsimp only at hSw); go_simp; try (with_reducible rfl))
                    simp only [Act.put, List.setIfInBounds_toArray, List.set_cons_zero, List.set_cons_succ]
                    refine wpAnyH_take (i := 27) (oi := ⟨some 128, _, _, _, _, _⟩) (v := ?_) rfl (by kernel_rfl) (by kernel_rfl) (by kernel_rfl) (fun _ _ _ h => h) (Or.inl ⟨by rfl, ?_⟩) (by exact hHeld) ?_
                    rotate_left
                    · (intro w hSw; (try dsimp only at hSw); go_simp; try (with_reducible rfl))
                    simp only [Act.put, List.setIfInBounds_toArray, List.set_cons_zero, List.set_cons_succ]
                    refine wpAnyH_done (by kernel_rfl) ?_ _
                    refine NoPanic.normal ?_
                    go_wp2_with fail
                    exact ⟨⟨i + 1, by omega, by go_num, Lib.hid (HB.out.trans (HBx.out.trans (hBo.mono HBx.out.size) |>.mono HB.out.size))⟩, by simp [intOf]; omega⟩
                  · have d8 := (int_ne h8).1
                    by_cases h9 : s.kind = 9
                    · have d9 := (int_eq h9).1
                      clear h8 h9
                      go_wp2_with (first
                        | (with_reducible show wpList _ _ _ ({ dst := some 91, op := .load 35 _, type := _, pos := _, after := _, guard := _ } :: _) _ _
                           refine wpList_load_mid rfl 35 _ rfl bW (oW + i * 9) rfl s.cs _ HYr.out Try.underlying35 rfl (by rw [Tr.cs_length]; kernel_rfl) ?_)
                        | (with_reducible show wpList _ _ _ ({ dst := none, op := .store 35 (.tmp 9) _, type := _, pos := _, after := _, guard := _ } :: _) _ _
                           refine wpList_store_row rfl 35 _ _ rfl wr.heap.size s.cs.toArray rfl rfl 35 Tr.blank.cs.toArray (At.new _ _ _) (by kernel_rfl) rfl hone ?_
                           change Exit.then _ _ _ _ (boxW wr s))
                        | fail)
                      obtain ⟨wo, hwo⟩ : ∃ wo, wo = (boxW wr s).setCell ⟨wr.heap.size, 8, none⟩ (.bool true) := ⟨_, rfl⟩
                      rw [← hwo]
                      obtain ⟨s9, hs9⟩ : ∃ s9, s9 = negT true s := ⟨_, rfl⟩
                      have hbo : Below wr.heap.size wr wo := by rw [hwo]; exact (boxW_next wr s).setCell (Nat.le_refl _) _
                      have HN9 : Hid (At wo wr.heap.size 35 s9.cs.toArray) := Lib.hid (by rw [hwo, hs9, negT_cs]; exact (boxW_at wr s).set 8 _)
                      have HBx := Lib.hid hbo
                      have HAo := Lib.hid (At.below HAr.out hbo HAr.out.lt)
                      have HLkO := Lib.hid (HLkr.out.next hbo)
                      have HX := Lib.hid (range_below HXr.out HXq.out (Nat.le_refl _) hbo)
                      have HXl : Hid (bL < wo.heap.size) := Lib.hid (Nat.lt_of_lt_of_le HXq.out hbo.size)
                      have HY := Lib.hid (range_below HYr.out HYq.out (Nat.le_refl _) hbo)
                      have HYl : Hid (bW < wo.heap.size) := Lib.hid (Nat.lt_of_lt_of_le HYq.out hbo.size)
                      have HIq := Lib.hid (HIqr.out.next hbo)
                      have HIs := Lib.hid (HIsr.out.next hbo).1
                      have HIs40 := Lib.hid (HIs4.out.next hbo)
                      have HI9 : Hid (Tr.Ins wo 40 s9) := Lib.hid (by rw [hs9]; exact negT_ins (HIs4.out.next hbo))
                      have HZ2 : Hid (idxS L s9 = i) := Lib.hid (idx_at HRel.out HUW.out hiW.out (by rw [hs9, bare_neg]; exact HBs.out))
                      obtain ⟨g9, hg9⟩ : ∃ g9, g9 = wr.heap.size := ⟨_, rfl⟩
                      rw [← hg9] at HN9 ⊢
                      clear hwo hs9 hbo hg9 q0 q8 f8 hone
                      have hBo : Below wo.heap.size wo wo := Below.refl _ _
                      refine wp_region_noPanic ?_
                      refine wp_region_held_drew (S := (fun w' => w'.cell? ⟨gp, 0, none⟩ = some (Value.slice (some ⟨bL, oL, none⟩) L.length cL) ∧ w'.rangeAt bL (oL + i * 9) q.cs ∧ w'.rangeAt bW (oW + i * 9) s.cs ∧ w'.rangeAt gp 0 [(Value.slice (some ⟨bL, oL, none⟩) L.length cL)] ∧ w'.rangeAt g9 0 s9.cs)) (by kernel_rfl) (by first | exact ⟨(At.below HAo.out hBo HAo.out.lt).cell 0, range_below HX.out HXl.out (Nat.le_refl _) hBo, range_below HY.out HYl.out (Nat.le_refl _) hBo, pl_range (At.below HAo.out hBo HAo.out.lt), tr_range (At.below HN9.out hBo HN9.out.lt)⟩ | exact ⟨(At.below HAo.out hBo.drew HAo.out.lt).cell 0, range_below HX.out HXl.out (Nat.le_refl _) hBo.drew, range_below HY.out HYl.out (Nat.le_refl _) hBo.drew, pl_range (At.below HAo.out hBo.drew HAo.out.lt), tr_range (At.below HN9.out hBo.drew HN9.out.lt)⟩) (fun hHeld => ?_)
                      have hBo := hBo.drew
                      refine wpAnyH_take (i := 0) (oi := ⟨some 101, _, _, _, _, _⟩) (v := ?_) rfl (by kernel_rfl) (by kernel_rfl) (by kernel_rfl) (fun _ _ _ h => h) (Or.inl ⟨by rfl, ?_⟩) (by exact hHeld) ?_
                      rotate_left
                      · (intro w hSw; (try dsimp only at hSw); go_simp; try (with_reducible rfl))
                      simp only [Act.put, List.setIfInBounds_toArray, List.set_cons_zero, List.set_cons_succ]
                      refine wpAnyH_take (i := 1) (oi := ⟨some 102, _, _, _, _, _⟩) (v := ?_) rfl (by kernel_rfl) (by kernel_rfl) (by kernel_rfl) (fun _ _ _ h => h) (Or.inl ⟨by rfl, ?_⟩) (by exact hHeld) ?_
                      rotate_left
                      · (intro w hSw; (try dsimp only at hSw); obtain ⟨s0, s1, s2, s3, s4⟩ := hSw; go_simp; try (with_reducible rfl))
                      simp only [Act.put, List.setIfInBounds_toArray, List.set_cons_zero, List.set_cons_succ]
                      refine wpAnyH_take (i := 2) (oi := ⟨some 103, _, _, _, _, _⟩) (v := ?_) rfl (by kernel_rfl) (by kernel_rfl) (by kernel_rfl) (fun _ _ _ h => h) (Or.inl ⟨by rfl, ?_⟩) (by exact hHeld) ?_
                      rotate_left
                      · (intro w hSw; (try dsimp only at hSw); go_simp; try (with_reducible rfl))
                      simp only [Act.put, List.setIfInBounds_toArray, List.set_cons_zero, List.set_cons_succ]
                      refine wpAnyH_take (i := 3) (oi := ⟨some 104, _, _, _, _, _⟩) (v := ?_) rfl (by kernel_rfl) (by kernel_rfl) (by kernel_rfl) (fun _ _ _ h => h) (Or.inl ⟨by rfl, ?_⟩) (by exact hHeld) ?_
                      rotate_left
                      · (intro w hSw; (try dsimp only at hSw); go_simp; try (with_reducible rfl))
                      simp only [Act.put, List.setIfInBounds_toArray, List.set_cons_zero, List.set_cons_succ]
                      refine wpAnyH_take (i := 4) (oi := ⟨some 105, _, _, _, _, _⟩) (v := _) rfl (by kernel_rfl) (by kernel_rfl) (by kernel_rfl) (fun _ _ _ h => h) (yieldsIf_load_mid (by rfl) 35 _ rfl bL (oL + i * 9) rfl q.cs _ (fun _ h => h.2.1) Try.underlying35 rfl (by rw [Tr.cs_length]; kernel_rfl)) (by exact hHeld) ?_
                      simp only [Act.put, List.setIfInBounds_toArray, List.set_cons_zero, List.set_cons_succ]
                      refine wpAnyH_take (i := 5) (oi := ⟨some 106, _, _, _, _, _⟩) (v := ?_) rfl (by kernel_rfl) (by kernel_rfl) (by kernel_rfl) (fun _ _ _ h => h) (Or.inl ⟨by rfl, ?_⟩) (by exact hHeld) ?_
                      rotate_left
                      · (intro w hSw; (try dsimp only at hSw); go_simp; try (with_reducible rfl))
                      simp only [Act.put, List.setIfInBounds_toArray, List.set_cons_zero, List.set_cons_succ]
                      refine wpAnyH_take (i := 6) (oi := ⟨some 107, _, _, _, _, _⟩) (v := ?_) rfl (by kernel_rfl) (by kernel_rfl) (by kernel_rfl) (fun _ _ _ h => h) (Or.inl ⟨by rfl, ?_⟩) (by exact hHeld) ?_
                      rotate_left
                      · (intro w hSw; (try dsimp only at hSw); go_simp; try (with_reducible rfl))
                      simp only [Act.put, List.setIfInBounds_toArray, List.set_cons_zero, List.set_cons_succ]
                      refine wpAnyH_take (i := 7) (oi := ⟨some 108, _, _, _, _, _⟩) (v := ?_) rfl (by kernel_rfl) (by kernel_rfl) (by kernel_rfl) (fun _ _ _ h => h) (Or.inl ⟨by rfl, ?_⟩) (by exact hHeld) ?_
                      rotate_left
                      · (intro w hSw; (try dsimp only at hSw); go_simp; try (with_reducible rfl))
                      simp only [Act.put, List.setIfInBounds_toArray, List.set_cons_zero, List.set_cons_succ]
                      refine wpAnyH_take (i := 8) (oi := ⟨some 109, _, _, _, _, _⟩) (v := _) rfl (by kernel_rfl) (by kernel_rfl) (by kernel_rfl) (fun _ _ _ h => h) (yieldsIf_load_mid (by rfl) 35 _ rfl bW (oW + i * 9) rfl s.cs _ (fun _ h => h.2.2.1) Try.underlying35 rfl (by rw [Tr.cs_length]; kernel_rfl)) (by exact hHeld) ?_
                      simp only [Act.put, List.setIfInBounds_toArray, List.set_cons_zero, List.set_cons_succ]
                      refine wpAnyH_ready (rs := [9]) (by kernel_rfl) (by simp) ?_
                      refine AllReadyH.cons (o := ⟨some 110, _, _, _, _, _⟩) rfl (fun K hK => ?_) AllReadyH.nil
                      go_simp
                      ((with_reducible refine (refSame kk 41 q s _ (by decide) (by decide) (HIq.out.next hBo) (HIs.out.next hBo)).mono ?_))
                      rintro e w5 ⟨rfl, hb5⟩
                      have hBo := below_step hBo hb5 rfl rfl rfl rfl
                      clear hb5
                      rw [HSm.out]
                      dsimp only
                      refine hK.out _ _ ?_ (fun hHeld => ?_)
                      · first | exact ⟨(At.below HAo.out hBo HAo.out.lt).cell 0, range_below HX.out HXl.out (Nat.le_refl _) hBo, range_below HY.out HYl.out (Nat.le_refl _) hBo, pl_range (At.below HAo.out hBo HAo.out.lt), tr_range (At.below HN9.out hBo HN9.out.lt)⟩ | exact ⟨(At.below HAo.out hBo.drew HAo.out.lt).cell 0, range_below HX.out HXl.out (Nat.le_refl _) hBo.drew, range_below HY.out HYl.out (Nat.le_refl _) hBo.drew, pl_range (At.below HAo.out hBo.drew HAo.out.lt), tr_range (At.below HN9.out hBo.drew HN9.out.lt)⟩
                      clear hK K
                      try simp only [Act.put, List.setIfInBounds_toArray, List.set_cons_zero, List.set_cons_succ]
                      refine wpAnyH_take (i := 10) (oi := ⟨some 111, _, _, _, _, _⟩) (v := ?_) rfl (by kernel_rfl) (by kernel_rfl) (by kernel_rfl) (fun _ _ _ h => h) (Or.inl ⟨by rfl, ?_⟩) (by exact hHeld) ?_
                      rotate_left
                      · (intro w hSw; (try dsimp only at hSw); go_simp; try (with_reducible rfl))
                      simp only [Act.put, List.setIfInBounds_toArray, List.set_cons_zero, List.set_cons_succ]
                      refine wpAnyH_take (i := 11) (oi := ⟨some 112, _, _, _, _, _⟩) (v := ?_) rfl (by kernel_rfl) (by kernel_rfl) (by kernel_rfl) (fun _ _ _ h => h) (Or.inl ⟨by rfl, ?_⟩) (by exact hHeld) ?_
                      rotate_left
                      · (intro w hSw; (try dsimp only at hSw); go_simp; try (with_reducible rfl))
                      simp only [Act.put, List.setIfInBounds_toArray, List.set_cons_zero, List.set_cons_succ]
                      refine wpAnyH_take (i := 12) (oi := ⟨some 113, _, _, _, _, _⟩) (v := _) rfl (by kernel_rfl) (by kernel_rfl) (by kernel_rfl) (fun _ _ _ h => h) (yieldsIf_load_mid (by rfl) 26 _ rfl gp 0 rfl [(Value.slice (some ⟨bL, oL, none⟩) L.length cL)] _ (fun _ h => h.2.2.2.1) Try.underlying26 rfl (by kernel_rfl)) (by exact hHeld) ?_
                      simp only [Act.put, List.setIfInBounds_toArray, List.set_cons_zero, List.set_cons_succ]
                      refine wpAnyH_take (i := 13) (oi := ⟨some 114, _, _, _, _, _⟩) (v := ?_) rfl (by kernel_rfl) (by kernel_rfl) (by kernel_rfl) (fun _ _ _ h => h) (Or.inl ⟨by rfl, ?_⟩) (by exact hHeld) ?_
                      rotate_left
                      · (intro w hSw; (try dsimp only at hSw); go_simp; try (with_reducible rfl))
                      simp only [Act.put, List.setIfInBounds_toArray, List.set_cons_zero, List.set_cons_succ]
                      refine wpAnyH_take (i := 14) (oi := ⟨some 115, _, _, _, _, _⟩) (v := ?_) rfl (by kernel_rfl) (by kernel_rfl) (by kernel_rfl) (fun _ _ _ h => h) (Or.inl ⟨by rfl, ?_⟩) (by exact hHeld) ?_
                      rotate_left
                      · (intro w hSw; (try dsimp only at hSw); go_simp; try (with_reducible rfl))
                      simp only [Act.put, List.setIfInBounds_toArray, List.set_cons_zero, List.set_cons_succ]
                      refine wpAnyH_take (i := 15) (oi := ⟨some 116, _, _, _, _, _⟩) (v := ?_) rfl (by kernel_rfl) (by kernel_rfl) (by kernel_rfl) (fun _ _ _ h => h) (Or.inl ⟨by rfl, ?_⟩) (by exact hHeld) ?_
                      rotate_left
                      · (intro w hSw; (try dsimp only at hSw); go_simp; try (with_reducible rfl))
                      simp only [Act.put, List.setIfInBounds_toArray, List.set_cons_zero, List.set_cons_succ]
                      refine wpAnyH_take (i := 16) (oi := ⟨some 117, _, _, _, _, _⟩) (v := _) rfl (by kernel_rfl) (by kernel_rfl) (by kernel_rfl) (fun _ _ _ h => h) (yieldsIf_load_mid (by rfl) 35 _ rfl bW (oW + i * 9) rfl s.cs _ (fun _ h => h.2.2.1) Try.underlying35 rfl (by rw [Tr.cs_length]; kernel_rfl)) (by exact hHeld) ?_
                      simp only [Act.put, List.setIfInBounds_toArray, List.set_cons_zero, List.set_cons_succ]
                      refine wpAnyH_take (i := 18) (oi := ⟨some 119, _, _, _, _, _⟩) (v := ?_) rfl (by kernel_rfl) (by kernel_rfl) (by kernel_rfl) (fun _ _ _ h => h) (Or.inl ⟨by rfl, ?_⟩) (by exact hHeld) ?_
                      rotate_left
                      · (intro w hSw; (try dsimp only at hSw); go_simp; try (with_reducible rfl))
                      simp only [Act.put, List.setIfInBounds_toArray, List.set_cons_zero, List.set_cons_succ]
                      refine wpAnyH_ready (rs := [17]) (by kernel_rfl) (by simp) ?_
                      refine AllReadyH.cons (o := ⟨some 118, _, _, _, _, _⟩) rfl (fun K hK => ?_) AllReadyH.nil
                      go_simp
                      ((with_reducible refine (tIndex (Value.slice (some ⟨bL, oL, none⟩) L.length cL) L s _ (HLkO.out.next hBo) (by have := HF4.out; omega) (HIs40.out.next hBo)).mono ?_))
                      rintro e w6 ⟨rfl, hb6⟩
                      have hBo := below_step hBo hb6 rfl rfl rfl rfl
                      clear hb6
                      rw [HZ1.out]
                      dsimp only
                      refine hK.out _ _ ?_ (fun hHeld => ?_)
                      · first | exact ⟨(At.below HAo.out hBo HAo.out.lt).cell 0, range_below HX.out HXl.out (Nat.le_refl _) hBo, range_below HY.out HYl.out (Nat.le_refl _) hBo, pl_range (At.below HAo.out hBo HAo.out.lt), tr_range (At.below HN9.out hBo HN9.out.lt)⟩ | exact ⟨(At.below HAo.out hBo.drew HAo.out.lt).cell 0, range_below HX.out HXl.out (Nat.le_refl _) hBo.drew, range_below HY.out HYl.out (Nat.le_refl _) hBo.drew, pl_range (At.below HAo.out hBo.drew HAo.out.lt), tr_range (At.below HN9.out hBo.drew HN9.out.lt)⟩
                      clear hK K
                      try simp only [Act.put, List.setIfInBounds_toArray, List.set_cons_zero, List.set_cons_succ]
                      refine wpAnyH_take (i := 19) (oi := ⟨some 120, _, _, _, _, _⟩) (v := ?_) rfl (by kernel_rfl) (by kernel_rfl) (by kernel_rfl) (fun _ _ _ h => h) (Or.inl ⟨by rfl, ?_⟩) (by exact hHeld) ?_
                      rotate_left
                      · (intro w hSw; (try dsimp only at hSw); go_simp; try (with_reducible rfl))
                      simp only [Act.put, List.setIfInBounds_toArray, List.set_cons_zero, List.set_cons_succ]
                      refine wpAnyH_take (i := 20) (oi := ⟨some 121, _, _, _, _, _⟩) (v := ?_) rfl (by kernel_rfl) (by kernel_rfl) (by kernel_rfl) (fun _ _ _ h => h) (Or.inl ⟨by rfl, ?_⟩) (by exact hHeld) ?_
                      rotate_left
                      · (intro w hSw; (try dsimp only at hSw); go_simp; try (with_reducible rfl))
                      simp only [Act.put, List.setIfInBounds_toArray, List.set_cons_zero, List.set_cons_succ]
                      refine wpAnyH_take (i := 21) (oi := ⟨some 122, _, _, _, _, _⟩) (v := ?_) rfl (by kernel_rfl) (by kernel_rfl) (by kernel_rfl) (fun _ _ _ h => h) (Or.inl ⟨by rfl, ?_⟩) (by exact hHeld) ?_
                      rotate_left
                      · (intro w hSw; (try dsimp only at hSw); go_simp; try (with_reducible rfl))
                      simp only [Act.put, List.setIfInBounds_toArray, List.set_cons_zero, List.set_cons_succ]
                      refine wpAnyH_take (i := 22) (oi := ⟨some 123, _, _, _, _, _⟩) (v := _) rfl (by kernel_rfl) (by kernel_rfl) (by kernel_rfl) (fun _ _ _ h => h) (yieldsIf_load_mid (by rfl) 26 _ rfl gp 0 rfl [(Value.slice (some ⟨bL, oL, none⟩) L.length cL)] _ (fun _ h => h.2.2.2.1) Try.underlying26 rfl (by kernel_rfl)) (by exact hHeld) ?_
                      simp only [Act.put, List.setIfInBounds_toArray, List.set_cons_zero, List.set_cons_succ]
                      refine wpAnyH_take (i := 23) (oi := ⟨some 124, _, _, _, _, _⟩) (v := _) rfl (by kernel_rfl) (by kernel_rfl) (by kernel_rfl) (fun _ _ _ h => h) (yieldsIf_load_mid (by rfl) 35 _ rfl g9 0 rfl s9.cs _ (fun _ h => h.2.2.2.2) Try.underlying35 rfl (by rw [Tr.cs_length]; kernel_rfl)) (by exact hHeld) ?_
                      simp only [Act.put, List.setIfInBounds_toArray, List.set_cons_zero, List.set_cons_succ]
                      refine wpAnyH_take (i := 25) (oi := ⟨some 126, _, _, _, _, _⟩) (v := ?_) rfl (by kernel_rfl) (by kernel_rfl) (by kernel_rfl) (fun _ _ _ h => h) (Or.inl ⟨by rfl, ?_⟩) (by exact hHeld) ?_
                      rotate_left
                      · (intro w hSw; (try dsimp only at hSw); go_simp; try (with_reducible rfl))
                      simp only [Act.put, List.setIfInBounds_toArray, List.set_cons_zero, List.set_cons_succ]
                      refine wpAnyH_ready (rs := [24]) (by kernel_rfl) (by simp) ?_
                      refine AllReadyH.cons (o := ⟨some 125, _, _, _, _, _⟩) rfl (fun K hK => ?_) AllReadyH.nil
                      go_simp
                      ((with_reducible refine (tIndex (Value.slice (some ⟨bL, oL, none⟩) L.length cL) L s9 _ (HLkO.out.next hBo) (by have := HF4.out; omega) (HI9.out.next hBo)).mono ?_))
                      rintro e w6 ⟨rfl, hb6⟩
                      have hBo := below_step hBo hb6 rfl rfl rfl rfl
                      clear hb6
                      rw [HZ2.out]
                      dsimp only
                      refine hK.out _ _ ?_ (fun hHeld => ?_)
                      · first | exact ⟨(At.below HAo.out hBo HAo.out.lt).cell 0, range_below HX.out HXl.out (Nat.le_refl _) hBo, range_below HY.out HYl.out (Nat.le_refl _) hBo, pl_range (At.below HAo.out hBo HAo.out.lt), tr_range (At.below HN9.out hBo HN9.out.lt)⟩ | exact ⟨(At.below HAo.out hBo.drew HAo.out.lt).cell 0, range_below HX.out HXl.out (Nat.le_refl _) hBo.drew, range_below HY.out HYl.out (Nat.le_refl _) hBo.drew, pl_range (At.below HAo.out hBo.drew HAo.out.lt), tr_range (At.below HN9.out hBo.drew HN9.out.lt)⟩
                      clear hK K
                      try simp only [Act.put, List.setIfInBounds_toArray, List.set_cons_zero, List.set_cons_succ]
                      refine wpAnyH_take (i := 26) (oi := ⟨some 127, _, _, _, _, _⟩) (v := ?_) rfl (by kernel_rfl) (by kernel_rfl) (by kernel_rfl) (fun _ _ _ h => h) (Or.inl ⟨by rfl, ?_⟩) (by exact hHeld) ?_
                      rotate_left
                      · (intro w hSw; (try dsimp only at hSw); go_simp; try (with_reducible rfl))
                      simp only [Act.put, List.setIfInBounds_toArray, List.set_cons_zero, List.set_cons_succ]
                      refine wpAnyH_take (i := 27) (oi := ⟨some 128, _, _, _, _, _⟩) (v := ?_) rfl (by kernel_rfl) (by kernel_rfl) (by kernel_rfl) (fun _ _ _ h => h) (Or.inl ⟨by rfl, ?_⟩) (by exact hHeld) ?_
                      rotate_left
                      · (intro w hSw; (try dsimp only at hSw); go_simp; try (with_reducible rfl))
                      simp only [Act.put, List.setIfInBounds_toArray, List.set_cons_zero, List.set_cons_succ]
                      refine wpAnyH_done (by kernel_rfl) ?_ _
                      refine NoPanic.normal ?_
                      go_wp2_with fail
                      exact ⟨⟨i + 1, by omega, by go_num, Lib.hid (HB.out.trans (HBx.out.trans (hBo.mono HBx.out.size) |>.mono HB.out.size))⟩, by simp [intOf]; omega⟩
                    · have d9 := (int_ne h9).1
                      clear h8 h9
                      go_wp2_with (first
                        | (with_reducible show wpList _ _ _ ({ dst := some 91, op := .load 35 _, type := _, pos := _, after := _, guard := _ } :: _) _ _
                           refine wpList_load_mid rfl 35 _ rfl bW (oW + i * 9) rfl s.cs _ HYr.out Try.underlying35 rfl (by rw [Tr.cs_length]; kernel_rfl) ?_)
                        | (with_reducible show wpList _ _ _ ({ dst := none, op := .store 35 (.tmp 9) _, type := _, pos := _, after := _, guard := _ } :: _) _ _
                           refine wpList_store_row rfl 35 _ _ rfl wr.heap.size s.cs.toArray rfl rfl 35 Tr.blank.cs.toArray (At.new _ _ _) (by kernel_rfl) rfl hone ?_
                           change Exit.then _ _ _ _ (boxW wr s))
                        | fail)
                      obtain ⟨wo, hwo⟩ : ∃ wo, wo = (boxW wr s).setCell ⟨wr.heap.size, 8, none⟩ (.bool false) := ⟨_, rfl⟩
                      rw [← hwo]
                      obtain ⟨s9, hs9⟩ : ∃ s9, s9 = negT false s := ⟨_, rfl⟩
                      have hbo : Below wr.heap.size wr wo := by rw [hwo]; exact (boxW_next wr s).setCell (Nat.le_refl _) _
                      have HN9 : Hid (At wo wr.heap.size 35 s9.cs.toArray) := Lib.hid (by rw [hwo, hs9, negT_cs]; exact (boxW_at wr s).set 8 _)
                      have HBx := Lib.hid hbo
                      have HAo := Lib.hid (At.below HAr.out hbo HAr.out.lt)
                      have HLkO := Lib.hid (HLkr.out.next hbo)
                      have HX := Lib.hid (range_below HXr.out HXq.out (Nat.le_refl _) hbo)
                      have HXl : Hid (bL < wo.heap.size) := Lib.hid (Nat.lt_of_lt_of_le HXq.out hbo.size)
                      have HY := Lib.hid (range_below HYr.out HYq.out (Nat.le_refl _) hbo)
                      have HYl : Hid (bW < wo.heap.size) := Lib.hid (Nat.lt_of_lt_of_le HYq.out hbo.size)
                      have HIq := Lib.hid (HIqr.out.next hbo)
                      have HIs := Lib.hid (HIsr.out.next hbo).1
                      have HIs40 := Lib.hid (HIs4.out.next hbo)
                      have HI9 : Hid (Tr.Ins wo 40 s9) := Lib.hid (by rw [hs9]; exact negT_ins (HIs4.out.next hbo))
                      have HZ2 : Hid (idxS L s9 = i) := Lib.hid (idx_at HRel.out HUW.out hiW.out (by rw [hs9, bare_neg]; exact HBs.out))
                      obtain ⟨g9, hg9⟩ : ∃ g9, g9 = wr.heap.size := ⟨_, rfl⟩
                      rw [← hg9] at HN9 ⊢
                      clear hwo hs9 hbo hg9 q0 q8 f8 hone
                      have hBo : Below wo.heap.size wo wo := Below.refl _ _
                      refine wp_region_noPanic ?_
                      refine wp_region_held_drew (S := (fun w' => w'.cell? ⟨gp, 0, none⟩ = some (Value.slice (some ⟨bL, oL, none⟩) L.length cL) ∧ w'.rangeAt bL (oL + i * 9) q.cs ∧ w'.rangeAt bW (oW + i * 9) s.cs ∧ w'.rangeAt gp 0 [(Value.slice (some ⟨bL, oL, none⟩) L.length cL)] ∧ w'.rangeAt g9 0 s9.cs)) (by kernel_rfl) (by first | exact ⟨(At.below HAo.out hBo HAo.out.lt).cell 0, range_below HX.out HXl.out (Nat.le_refl _) hBo, range_below HY.out HYl.out (Nat.le_refl _) hBo, pl_range (At.below HAo.out hBo HAo.out.lt), tr_range (At.below HN9.out hBo HN9.out.lt)⟩ | exact ⟨(At.below HAo.out hBo.drew HAo.out.lt).cell 0, range_below HX.out HXl.out (Nat.le_refl _) hBo.drew, range_below HY.out HYl.out (Nat.le_refl _) hBo.drew, pl_range (At.below HAo.out hBo.drew HAo.out.lt), tr_range (At.below HN9.out hBo.drew HN9.out.lt)⟩) (fun hHeld => ?_)
                      have hBo := hBo.drew
                      refine wpAnyH_take (i := 0) (oi := ⟨some 101, _, _, _, _, _⟩) (v := ?_) rfl (by kernel_rfl) (by kernel_rfl) (by kernel_rfl) (fun _ _ _ h => h) (Or.inl ⟨by rfl, ?_⟩) (by exact hHeld) ?_
                      rotate_left
                      · (intro w hSw; (try dsimp only at hSw); go_simp; try (with_reducible rfl))
                      simp only [Act.put, List.setIfInBounds_toArray, List.set_cons_zero, List.set_cons_succ]
                      refine wpAnyH_take (i := 1) (oi := ⟨some 102, _, _, _, _, _⟩) (v := ?_) rfl (by kernel_rfl) (by kernel_rfl) (by kernel_rfl) (fun _ _ _ h => h) (Or.inl ⟨by rfl, ?_⟩) (by exact hHeld) ?_
                      rotate_left
                      · (intro w hSw; (try dsimp only at hSw); obtain ⟨s0, s1, s2, s3, s4⟩ := hSw; go_simp; try (with_reducible rfl))
                      simp only [Act.put, List.setIfInBounds_toArray, List.set_cons_zero, List.set_cons_succ]
                      refine wpAnyH_take (i := 2) (oi := ⟨some 103, _, _, _, _, _⟩) (v := ?_) rfl (by kernel_rfl) (by kernel_rfl) (by kernel_rfl) (fun _ _ _ h => h) (Or.inl ⟨by rfl, ?_⟩) (by exact hHeld) ?_
                      rotate_left
                      · (intro w hSw; (try dsimp only at hSw); go_simp; try (with_reducible rfl))
                      simp only [Act.put, List.setIfInBounds_toArray, List.set_cons_zero, List.set_cons_succ]
                      refine wpAnyH_take (i := 3) (oi := ⟨some 104, _, _, _, _, _⟩) (v := ?_) rfl (by kernel_rfl) (by kernel_rfl) (by kernel_rfl) (fun _ _ _ h => h) (Or.inl ⟨by rfl, ?_⟩) (by exact hHeld) ?_
                      rotate_left
                      · (intro w hSw; (try dsimp only at hSw); go_simp; try (with_reducible rfl))
                      simp only [Act.put, List.setIfInBounds_toArray, List.set_cons_zero, List.set_cons_succ]
                      refine wpAnyH_take (i := 4) (oi := ⟨some 105, _, _, _, _, _⟩) (v := _) rfl (by kernel_rfl) (by kernel_rfl) (by kernel_rfl) (fun _ _ _ h => h) (yieldsIf_load_mid (by rfl) 35 _ rfl bL (oL + i * 9) rfl q.cs _ (fun _ h => h.2.1) Try.underlying35 rfl (by rw [Tr.cs_length]; kernel_rfl)) (by exact hHeld) ?_
                      simp only [Act.put, List.setIfInBounds_toArray, List.set_cons_zero, List.set_cons_succ]
                      refine wpAnyH_take (i := 5) (oi := ⟨some 106, _, _, _, _, _⟩) (v := ?_) rfl (by kernel_rfl) (by kernel_rfl) (by kernel_rfl) (fun _ _ _ h => h) (Or.inl ⟨by rfl, ?_⟩) (by exact hHeld) ?_
                      rotate_left
                      · (intro w hSw; (try dsimp only at hSw); go_simp; try (with_reducible rfl))
                      simp only [Act.put, List.setIfInBounds_toArray, List.set_cons_zero, List.set_cons_succ]
                      refine wpAnyH_take (i := 6) (oi := ⟨some 107, _, _, _, _, _⟩) (v := ?_) rfl (by kernel_rfl) (by kernel_rfl) (by kernel_rfl) (fun _ _ _ h => h) (Or.inl ⟨by rfl, ?_⟩) (by exact hHeld) ?_
                      rotate_left
                      · (intro w hSw; (try dsimp only at hSw); go_simp; try (with_reducible rfl))
                      simp only [Act.put, List.setIfInBounds_toArray, List.set_cons_zero, List.set_cons_succ]
                      refine wpAnyH_take (i := 7) (oi := ⟨some 108, _, _, _, _, _⟩) (v := ?_) rfl (by kernel_rfl) (by kernel_rfl) (by kernel_rfl) (fun _ _ _ h => h) (Or.inl ⟨by rfl, ?_⟩) (by exact hHeld) ?_
                      rotate_left
                      · (intro w hSw; (try dsimp only at hSw); go_simp; try (with_reducible rfl))
                      simp only [Act.put, List.setIfInBounds_toArray, List.set_cons_zero, List.set_cons_succ]
                      refine wpAnyH_take (i := 8) (oi := ⟨some 109, _, _, _, _, _⟩) (v := _) rfl (by kernel_rfl) (by kernel_rfl) (by kernel_rfl) (fun _ _ _ h => h) (yieldsIf_load_mid (by rfl) 35 _ rfl bW (oW + i * 9) rfl s.cs _ (fun _ h => h.2.2.1) Try.underlying35 rfl (by rw [Tr.cs_length]; kernel_rfl)) (by exact hHeld) ?_
                      simp only [Act.put, List.setIfInBounds_toArray, List.set_cons_zero, List.set_cons_succ]
                      refine wpAnyH_ready (rs := [9]) (by kernel_rfl) (by simp) ?_
                      refine AllReadyH.cons (o := ⟨some 110, _, _, _, _, _⟩) rfl (fun K hK => ?_) AllReadyH.nil
                      go_simp
                      ((with_reducible refine (refSame kk 41 q s _ (by decide) (by decide) (HIq.out.next hBo) (HIs.out.next hBo)).mono ?_))
                      rintro e w5 ⟨rfl, hb5⟩
                      have hBo := below_step hBo hb5 rfl rfl rfl rfl
                      clear hb5
                      rw [HSm.out]
                      dsimp only
                      refine hK.out _ _ ?_ (fun hHeld => ?_)
                      · first | exact ⟨(At.below HAo.out hBo HAo.out.lt).cell 0, range_below HX.out HXl.out (Nat.le_refl _) hBo, range_below HY.out HYl.out (Nat.le_refl _) hBo, pl_range (At.below HAo.out hBo HAo.out.lt), tr_range (At.below HN9.out hBo HN9.out.lt)⟩ | exact ⟨(At.below HAo.out hBo.drew HAo.out.lt).cell 0, range_below HX.out HXl.out (Nat.le_refl _) hBo.drew, range_below HY.out HYl.out (Nat.le_refl _) hBo.drew, pl_range (At.below HAo.out hBo.drew HAo.out.lt), tr_range (At.below HN9.out hBo.drew HN9.out.lt)⟩
                      clear hK K
                      try simp only [Act.put, List.setIfInBounds_toArray, List.set_cons_zero, List.set_cons_succ]
                      refine wpAnyH_take (i := 10) (oi := ⟨some 111, _, _, _, _, _⟩) (v := ?_) rfl (by kernel_rfl) (by kernel_rfl) (by kernel_rfl) (fun _ _ _ h => h) (Or.inl ⟨by rfl, ?_⟩) (by exact hHeld) ?_
                      rotate_left
                      · (intro w hSw; (try dsimp only at hSw); go_simp; try (with_reducible rfl))
                      simp only [Act.put, List.setIfInBounds_toArray, List.set_cons_zero, List.set_cons_succ]
                      refine wpAnyH_take (i := 11) (oi := ⟨some 112, _, _, _, _, _⟩) (v := ?_) rfl (by kernel_rfl) (by kernel_rfl) (by kernel_rfl) (fun _ _ _ h => h) (Or.inl ⟨by rfl, ?_⟩) (by exact hHeld) ?_
                      rotate_left
                      · (intro w hSw; (try dsimp only at hSw); go_simp; try (with_reducible rfl))
                      simp only [Act.put, List.setIfInBounds_toArray, List.set_cons_zero, List.set_cons_succ]
                      refine wpAnyH_take (i := 12) (oi := ⟨some 113, _, _, _, _, _⟩) (v := _) rfl (by kernel_rfl) (by kernel_rfl) (by kernel_rfl) (fun _ _ _ h => h) (yieldsIf_load_mid (by rfl) 26 _ rfl gp 0 rfl [(Value.slice (some ⟨bL, oL, none⟩) L.length cL)] _ (fun _ h => h.2.2.2.1) Try.underlying26 rfl (by kernel_rfl)) (by exact hHeld) ?_
                      simp only [Act.put, List.setIfInBounds_toArray, List.set_cons_zero, List.set_cons_succ]
                      refine wpAnyH_take (i := 13) (oi := ⟨some 114, _, _, _, _, _⟩) (v := ?_) rfl (by kernel_rfl) (by kernel_rfl) (by kernel_rfl) (fun _ _ _ h => h) (Or.inl ⟨by rfl, ?_⟩) (by exact hHeld) ?_
                      rotate_left
                      · (intro w hSw; (try dsimp only at hSw); go_simp; try (with_reducible rfl))
                      simp only [Act.put, List.setIfInBounds_toArray, List.set_cons_zero, List.set_cons_succ]
                      refine wpAnyH_take (i := 14) (oi := ⟨some 115, _, _, _, _, _⟩) (v := ?_) rfl (by kernel_rfl) (by kernel_rfl) (by kernel_rfl) (fun _ _ _ h => h) (Or.inl ⟨by rfl, ?_⟩) (by exact hHeld) ?_
                      rotate_left
                      · (intro w hSw; (try dsimp only at hSw); go_simp; try (with_reducible rfl))
                      simp only [Act.put, List.setIfInBounds_toArray, List.set_cons_zero, List.set_cons_succ]
                      refine wpAnyH_take (i := 15) (oi := ⟨some 116, _, _, _, _, _⟩) (v := ?_) rfl (by kernel_rfl) (by kernel_rfl) (by kernel_rfl) (fun _ _ _ h => h) (Or.inl ⟨by rfl, ?_⟩) (by exact hHeld) ?_
                      rotate_left
                      · (intro w hSw; (try dsimp only at hSw); go_simp; try (with_reducible rfl))
                      simp only [Act.put, List.setIfInBounds_toArray, List.set_cons_zero, List.set_cons_succ]
                      refine wpAnyH_take (i := 16) (oi := ⟨some 117, _, _, _, _, _⟩) (v := _) rfl (by kernel_rfl) (by kernel_rfl) (by kernel_rfl) (fun _ _ _ h => h) (yieldsIf_load_mid (by rfl) 35 _ rfl bW (oW + i * 9) rfl s.cs _ (fun _ h => h.2.2.1) Try.underlying35 rfl (by rw [Tr.cs_length]; kernel_rfl)) (by exact hHeld) ?_
                      simp only [Act.put, List.setIfInBounds_toArray, List.set_cons_zero, List.set_cons_succ]
                      refine wpAnyH_take (i := 18) (oi := ⟨some 119, _, _, _, _, _⟩) (v := ?_) rfl (by kernel_rfl) (by kernel_rfl) (by kernel_rfl) (fun _ _ _ h => h) (Or.inl ⟨by rfl, ?_⟩) (by exact hHeld) ?_
                      rotate_left
                      · (intro w hSw; (try dsimp only at hSw); go_simp; try (with_reducible rfl))
                      simp only [Act.put, List.setIfInBounds_toArray, List.set_cons_zero, List.set_cons_succ]
                      refine wpAnyH_ready (rs := [17]) (by kernel_rfl) (by simp) ?_
                      refine AllReadyH.cons (o := ⟨some 118, _, _, _, _, _⟩) rfl (fun K hK => ?_) AllReadyH.nil
                      go_simp
                      ((with_reducible refine (tIndex (Value.slice (some ⟨bL, oL, none⟩) L.length cL) L s _ (HLkO.out.next hBo) (by have := HF4.out; omega) (HIs40.out.next hBo)).mono ?_))
                      rintro e w6 ⟨rfl, hb6⟩
                      have hBo := below_step hBo hb6 rfl rfl rfl rfl
                      clear hb6
                      rw [HZ1.out]
                      dsimp only
                      refine hK.out _ _ ?_ (fun hHeld => ?_)
                      · first | exact ⟨(At.below HAo.out hBo HAo.out.lt).cell 0, range_below HX.out HXl.out (Nat.le_refl _) hBo, range_below HY.out HYl.out (Nat.le_refl _) hBo, pl_range (At.below HAo.out hBo HAo.out.lt), tr_range (At.below HN9.out hBo HN9.out.lt)⟩ | exact ⟨(At.below HAo.out hBo.drew HAo.out.lt).cell 0, range_below HX.out HXl.out (Nat.le_refl _) hBo.drew, range_below HY.out HYl.out (Nat.le_refl _) hBo.drew, pl_range (At.below HAo.out hBo.drew HAo.out.lt), tr_range (At.below HN9.out hBo.drew HN9.out.lt)⟩
                      clear hK K
                      try simp only [Act.put, List.setIfInBounds_toArray, List.set_cons_zero, List.set_cons_succ]
                      refine wpAnyH_take (i := 19) (oi := ⟨some 120, _, _, _, _, _⟩) (v := ?_) rfl (by kernel_rfl) (by kernel_rfl) (by kernel_rfl) (fun _ _ _ h => h) (Or.inl ⟨by rfl, ?_⟩) (by exact hHeld) ?_
                      rotate_left
                      · (intro w hSw; (try dsimp only at hSw); go_simp; try (with_reducible rfl))
                      simp only [Act.put, List.setIfInBounds_toArray, List.set_cons_zero, List.set_cons_succ]
                      refine wpAnyH_take (i := 20) (oi := ⟨some 121, _, _, _, _, _⟩) (v := ?_) rfl (by kernel_rfl) (by kernel_rfl) (by kernel_rfl) (fun _ _ _ h => h) (Or.inl ⟨by rfl, ?_⟩) (by exact hHeld) ?_
                      rotate_left
                      · (intro w hSw; (try dsimp only at hSw); go_simp; try (with_reducible rfl))
                      simp only [Act.put, List.setIfInBounds_toArray, List.set_cons_zero, List.set_cons_succ]
                      refine wpAnyH_take (i := 21) (oi := ⟨some 122, _, _, _, _, _⟩) (v := ?_) rfl (by kernel_rfl) (by kernel_rfl) (by kernel_rfl) (fun _ _ _ h => h) (Or.inl ⟨by rfl, ?_⟩) (by exact hHeld) ?_
                      rotate_left
                      · (intro w hSw; (try dsimp only at hSw); go_simp; try (with_reducible rfl))
                      simp only [Act.put, List.setIfInBounds_toArray, List.set_cons_zero, List.set_cons_succ]
                      refine wpAnyH_take (i := 22) (oi := ⟨some 123, _, _, _, _, _⟩) (v := _) rfl (by kernel_rfl) (by kernel_rfl) (by kernel_rfl) (fun _ _ _ h => h) (yieldsIf_load_mid (by rfl) 26 _ rfl gp 0 rfl [(Value.slice (some ⟨bL, oL, none⟩) L.length cL)] _ (fun _ h => h.2.2.2.1) Try.underlying26 rfl (by kernel_rfl)) (by exact hHeld) ?_
                      simp only [Act.put, List.setIfInBounds_toArray, List.set_cons_zero, List.set_cons_succ]
                      refine wpAnyH_take (i := 23) (oi := ⟨some 124, _, _, _, _, _⟩) (v := _) rfl (by kernel_rfl) (by kernel_rfl) (by kernel_rfl) (fun _ _ _ h => h) (yieldsIf_load_mid (by rfl) 35 _ rfl g9 0 rfl s9.cs _ (fun _ h => h.2.2.2.2) Try.underlying35 rfl (by rw [Tr.cs_length]; kernel_rfl)) (by exact hHeld) ?_
                      simp only [Act.put, List.setIfInBounds_toArray, List.set_cons_zero, List.set_cons_succ]
                      refine wpAnyH_take (i := 25) (oi := ⟨some 126, _, _, _, _, _⟩) (v := ?_) rfl (by kernel_rfl) (by kernel_rfl) (by kernel_rfl) (fun _ _ _ h => h) (Or.inl ⟨by rfl, ?_⟩) (by exact hHeld) ?_
                      rotate_left
                      · (intro w hSw; (try dsimp only at hSw); go_simp; try (with_reducible rfl))
                      simp only [Act.put, List.setIfInBounds_toArray, List.set_cons_zero, List.set_cons_succ]
                      refine wpAnyH_ready (rs := [24]) (by kernel_rfl) (by simp) ?_
                      refine AllReadyH.cons (o := ⟨some 125, _, _, _, _, _⟩) rfl (fun K hK => ?_) AllReadyH.nil
                      go_simp
                      ((with_reducible refine (tIndex (Value.slice (some ⟨bL, oL, none⟩) L.length cL) L s9 _ (HLkO.out.next hBo) (by have := HF4.out; omega) (HI9.out.next hBo)).mono ?_))
                      rintro e w6 ⟨rfl, hb6⟩
                      have hBo := below_step hBo hb6 rfl rfl rfl rfl
                      clear hb6
                      rw [HZ2.out]
                      dsimp only
                      refine hK.out _ _ ?_ (fun hHeld => ?_)
                      · first | exact ⟨(At.below HAo.out hBo HAo.out.lt).cell 0, range_below HX.out HXl.out (Nat.le_refl _) hBo, range_below HY.out HYl.out (Nat.le_refl _) hBo, pl_range (At.below HAo.out hBo HAo.out.lt), tr_range (At.below HN9.out hBo HN9.out.lt)⟩ | exact ⟨(At.below HAo.out hBo.drew HAo.out.lt).cell 0, range_below HX.out HXl.out (Nat.le_refl _) hBo.drew, range_below HY.out HYl.out (Nat.le_refl _) hBo.drew, pl_range (At.below HAo.out hBo.drew HAo.out.lt), tr_range (At.below HN9.out hBo.drew HN9.out.lt)⟩
                      clear hK K
                      try simp only [Act.put, List.setIfInBounds_toArray, List.set_cons_zero, List.set_cons_succ]
                      refine wpAnyH_take (i := 26) (oi := ⟨some 127, _, _, _, _, _⟩) (v := ?_) rfl (by kernel_rfl) (by kernel_rfl) (by kernel_rfl) (fun _ _ _ h => h) (Or.inl ⟨by rfl, ?_⟩) (by exact hHeld) ?_
                      rotate_left
                      · (intro w hSw; (try dsimp only at hSw); go_simp; try (with_reducible rfl))
                      simp only [Act.put, List.setIfInBounds_toArray, List.set_cons_zero, List.set_cons_succ]
                      refine wpAnyH_take (i := 27) (oi := ⟨some 128, _, _, _, _, _⟩) (v := ?_) rfl (by kernel_rfl) (by kernel_rfl) (by kernel_rfl) (fun _ _ _ h => h) (Or.inl ⟨by rfl, ?_⟩) (by exact hHeld) ?_
                      rotate_left
                      · (intro w hSw; (try dsimp only at hSw); go_simp; try (with_reducible rfl))
                      simp only [Act.put, List.setIfInBounds_toArray, List.set_cons_zero, List.set_cons_succ]
                      refine wpAnyH_done (by kernel_rfl) ?_ _
                      refine NoPanic.normal ?_
                      go_wp2_with fail
                      exact ⟨⟨i + 1, by omega, by go_num, Lib.hid (HB.out.trans (HBx.out.trans (hBo.mono HBx.out.size) |>.mono HB.out.size))⟩, by simp [intOf]; omega⟩
                · obtain rfl : i = W.length := by omega
                  have HIe := Lib.hid (tIndex (.slice AL L.length cL) L (leafT 1) wr HLkr.out (by have := HF4.out; omega) (leaf_in wr 1 (by unfold I64; omega) 39))
                  rw [idx_empty HRel.out HUW.out] at HIe
                  have HBz := Lib.hid (HBv8.out.trans (HB.out.mono HBv8.out.size))
                  go_wp2_with (first
                    | (with_reducible show wpList _ _ _ ({ dst := some 130, op := .load 26 _, type := _, pos := _, after := _, guard := _ } :: _) _ _
                       refine wpList_load_row rfl 26 _ rfl gp rfl 26 #[.slice AL L.length cL] (0, 0) _ HAr.out Try.underlying26 rfl (by kernel_rfl) ?_)
                    | fail)
                  refine HIe.out.mono ?_
                  rintro e wz ⟨rfl, hbz⟩
                  have HBf := Lib.hid (HBz.out.trans (hbz.mono HBz.out.size))
                  clear hbz
                  go_wp2_with fail
                  go_ret
                  exact ⟨rfl, HBf.out⟩

end Go.Proofs.Ytjkcbojlopdonaa
