/- What bolterref21.Looks answers, wholly. -/
import Derived.Test.YtjkcbojlopdonaaPlanAt
import Derived.Deep.QuietTactic
namespace Go.Proofs.Ytjkcbojlopdonaa
open Go.RowKit
set_option linter.unusedSimpArgs false
set_option linter.unusedVariables false

def oneR (M : Nat) (L : List Tr) (t : Tr) : List Tr := if L.any (fun q => sameS M 41 q (bareT t)) = true then L else L ++ [bareT t]
def looksR (M : Nat) : Nat → List Tr → Tr → List Tr
  | 0, L, _ => L
  | k + 1, L, t => if t.kind < 8 then t.parts.foldl (looksR M k) L else oneR M (t.parts.foldl (looksR M k) L) t
theorem oneR_eq {M : Nat} (hM : 40 ≤ M) {L : List Tr} {t : Tr} (hL : ∀ q ∈ L, Tr.Lv 40 q) (ht : Tr.Lv 40 t) : oneR M L t = lookOne L t := by
  unfold oneR lookOne
  have e : L.any (fun q => sameS M 41 q (bareT t)) = L.any (fun q => sameS 40 40 q (bareT t)) := by
    rw [Bool.eq_iff_iff, List.any_eq_true, List.any_eq_true]
    constructor
    · rintro ⟨q, hq, h⟩
      exact ⟨q, hq, (same_iff 40 40 40 _ _ (hL q hq) (bare_lv ht) (Nat.le_refl _) (by omega)).2 ((same_iff 40 M 41 _ _ (hL q hq) (bare_lv ht) hM (by omega)).1 h)⟩
    · rintro ⟨q, hq, h⟩
      exact ⟨q, hq, (same_iff 40 M 41 _ _ (hL q hq) (bare_lv ht) hM (by omega)).2 ((same_iff 40 40 40 _ _ (hL q hq) (bare_lv ht) (Nat.le_refl _) (by omega)).1 h)⟩
  rw [e]
theorem lv_le : ∀ {k m : Nat} {t : Tr}, Tr.Lv k t → k ≤ m → Tr.Lv m t
  | 0, _, _, h, _ => h.elim
  | k + 1, 0, _, _, h => absurd h (by omega)
  | k + 1, m + 1, t, h, hm => fun p hp => lv_le (h p hp) (by omega)
/-- The reference's looks are the looks, where patterns are formed. -/
theorem looksR_eq {M : Nat} (hM : 40 ≤ M) : ∀ (k : Nat) (L : List Tr) (t : Tr), k ≤ 40 → Tr.Lv k t → (∀ q ∈ L, Tr.Lv 40 q) → looksR M k L t = refL k L t ∧ ∀ q ∈ refL k L t, Tr.Lv 40 q
  | 0, _, _, _, h, _ => h.elim
  | k + 1, L, t, hk, ht, hL => by
    have hf : ∀ (l : List Tr) (L : List Tr), (∀ p ∈ l, Tr.Lv k p) → (∀ q ∈ L, Tr.Lv 40 q) → l.foldl (looksR M k) L = l.foldl (refL k) L ∧ ∀ q ∈ l.foldl (refL k) L, Tr.Lv 40 q := by
      intro l
      induction l with
      | nil => exact fun L _ h => ⟨rfl, h⟩
      | cons p l ih =>
        intro L hl hL
        obtain ⟨e, h2⟩ := looksR_eq hM k L p (by omega) (hl p (by simp)) hL
        rw [List.foldl_cons, List.foldl_cons, e]
        exact ih _ (fun q hq => hl q (List.mem_cons_of_mem _ hq)) h2
    obtain ⟨e, h2⟩ := hf t.parts L ht hL
    have ht40 : Tr.Lv 40 t := lv_le (k := k + 1) ht (by omega)
    unfold looksR refL
    rw [e]
    split
    · exact ⟨rfl, h2⟩
    · refine ⟨oneR_eq hM h2 ht40, fun q hq => ?_⟩
      unfold lookOne at hq
      split at hq
      · exact h2 q hq
      · rcases List.mem_append.1 hq with hq | hq
        · exact h2 q hq
        · rw [List.mem_singleton.1 hq]; exact bare_lv ht40
/-- Levels more are none. -/
theorem looksR_up {M : Nat} : ∀ (k : Nat) (L : List Tr) (t : Tr), Tr.Lv k t → looksR M (k + 1) L t = looksR M k L t
  | 0, _, _, h => h.elim
  | k + 1, L, t, ht => by
    have hf : ∀ (l : List Tr) (L : List Tr), (∀ p ∈ l, Tr.Lv k p) → l.foldl (looksR M (k + 1)) L = l.foldl (looksR M k) L := by
      intro l
      induction l with
      | nil => exact fun L _ => rfl
      | cons p l ih =>
        intro L hl
        rw [List.foldl_cons, List.foldl_cons, looksR_up k L p (hl p (by simp))]
        exact ih _ (fun q hq => hl q (List.mem_cons_of_mem _ hq))
    have e := hf t.parts L ht
    show (if _ then _ else _) = (if _ then _ else _)
    rw [e]
theorem looksR_any {M k m : Nat} {L : List Tr} {t : Tr} (hk : Tr.Lv k t) (hm : Tr.Lv m t) : looksR M k L t = looksR M m L t := by
  have h : ∀ (a d : Nat), Tr.Lv a t → looksR M (a + d) L t = looksR M a L t := fun a d ha => by
    induction d with
    | zero => rfl
    | succ d ih => rw [← Nat.add_assoc, looksR_up (a + d) L t (lv_le ha (by omega)), ih]
  rcases Nat.le_total k m with q | q
  · obtain ⟨d, rfl⟩ := Nat.exists_eq_add_of_le q
    exact (h k d hk).symm
  · obtain ⟨d, rfl⟩ := Nat.exists_eq_add_of_le q
    exact h m d hm

set_option maxRecDepth 100000 in
set_option maxHeartbeats 16000000 in
theorem refLooksW (M : Nat) : ∀ (k : Nat) (t : Tr) (v : Value) (L : List Tr) (w : World), k ≤ M → Tr.In w k t → Pats w M v L → L.length + nodesN k t ≤ 100000 →
    Calls Try.prog 8 #[v, .agg t.cs.toArray] w fun e w' => ∃ v' L', e = .returned v' ∧ Pats w' M v' L' ∧ L'.length ≤ L.length + nodesN k t ∧ L' = looksR M k L t ∧ Below w.heap.size w w'
  | 0, _, _, _, _, _, h, _, _ => h.elim
  | k + 1, t, v, L, w, hkK, h, hP, hbig => by
    have hlen : t.parts.length ≤ 9223372036854775807 := by have := h.2.1; omega
    have hn := h.2.1.1
    have HI := Lib.hid h
    have HC := Lib.hid (At.tr_cell (At.new w 35 t.cs.toArray))
    have HP0 := Lib.hid (hP.next ((Below.refl w.heap.size w).alloc (Nat.le_refl _) (.cells t.cs.toArray 35)))
    have HBig : Hid (L.length + (1 + (t.parts.map (nodesN k)).sum) ≤ 100000) := Lib.hid hbig
    clear h hP hbig
    have hcell := HC.out.2.1
    go_enter Try.func8, Try.ntmps8
    go_wp2_with fail
    go_loopw [0, 10] (fun u i wr => ∃ (j : Nat) (L2 : List Tr), j ≤ t.parts.length ∧ i = .int .i64 j ∧ Hid (Pats wr M u L2) ∧ Hid (L2.length ≤ L.length + ((t.parts.take j).map (nodesN k)).sum) ∧ Hid (L2 = (t.parts.take j).foldl (looksR M k) L) ∧ Hid (At wr w.heap.size 35 t.cs.toArray) ∧ Hid (Below w.heap.size w wr)) (fun _ i _ => t.parts.length - (intOf i).toNat)
    case atStart => exact ⟨0, L, Nat.zero_le _, rfl, HP0, Lib.hid (by simp), Lib.hid (by simp), Lib.hid (At.new _ _ _), Lib.hid ((Below.refl _ _).alloc (Nat.le_refl _) _)⟩
    case round =>
      obtain ⟨j, L2, hj, rfl, HPs, HLn0, HLk0, HA, HB⟩ := hrel
      clear hcell HP0
      by_cases hlt : j < t.parts.length
      · have hcell := (At.tr_cell HA.out).2.1
        obtain ⟨b, off, ha, hb, hr⟩ := HI.out.2.2.1 (by rw [hn]; omega)
        have HR := Lib.hid (range_below (hr j hlt) hb (Nat.le_refl _) HB.out)
        have HP := Lib.hid (Tr.In.next (HI.out.2.2.2 j hlt) HB.out)
        have HSt := Lib.hid (sumN_take (f := nodesN k) hlt)
        have HAt := Lib.hid (foldl_take (f := looksR M k) (W := L) hlt)
        have HSl := Lib.hid (sumN_take_le (l := t.parts) (f := nodesN k) (j + 1))
        clear hr hb
        rw [ha] at hcell
        clear ha
        have hjz : (0 : Int) ≤ (j : Int) := by omega
        have hjn : (j : Int) < (t.parts.length : Int) := by omega
        have hbd : L2.length + nodesN k t.parts[j] ≤ 100000 := by
          have h1 := HLn0.out
          have h2 := HBig.out
          have h3 := HSl.out
          rw [HSt.out] at h3
          omega
        go_wp2_with (refine wpList_load_mid rfl 35 _ rfl b (off + j * 9) rfl t.parts[j].cs _ HR.out Try.underlying35 rfl (by rw [Tr.cs_length]; kernel_rfl) ?_)
        refine (refLooksW M k t.parts[j] _ L2 _ (by omega) HP.out HPs.out hbd).mono ?_
        rintro e w3 ⟨v3, L3, rfl, hp3, hl3, hk3, hb3⟩
        have HP3 := Lib.hid hp3
        have HA3 := Lib.hid (HA.out.step hb3 rfl)
        have HB3 := Lib.hid (below_step HB.out hb3 rfl rfl rfl rfl)
        have HL3 : Hid (L3.length ≤ L.length + ((t.parts.take (j + 1)).map (nodesN k)).sum) := Lib.hid (by rw [HSt.out]; have := HLn0.out; omega)
        have HK3 : Hid (L3 = (t.parts.take (j + 1)).foldl (looksR M k) L) := Lib.hid (by
          rw [HAt.out, ← HLk0.out]; exact hk3)
        clear hp3 hl3 hk3 hb3 hcell hbd
        go_wp2_with fail
        exact ⟨⟨j + 1, L3, by omega, by go_num, HP3, HL3, HK3, HA3, HB3⟩, by simp [intOf] <;> omega⟩
      · obtain rfl : j = t.parts.length := by omega
        have HLn : Hid (L2.length ≤ L.length + nodesN (k + 1) t) := Lib.hid (by have := HLn0.out; rw [List.take_length] at this; show _ ≤ L.length + (1 + (t.parts.map (nodesN k)).sum); omega)
        have HLm : Hid (L2.length + 1 ≤ L.length + nodesN (k + 1) t) := Lib.hid (by have := HLn0.out; rw [List.take_length] at this; show _ ≤ L.length + (1 + (t.parts.map (nodesN k)).sum); omega)
        have HLk1 : Hid (L2 = t.parts.foldl (looksR M k) L) := Lib.hid (by have := HLk0.out; rw [List.take_length] at this; exact this)
        have HBg : Hid (L2.length + 1 ≤ 100000) := Lib.hid (by have := HLm.out; have h2 := HBig.out; have : nodesN (k + 1) t = 1 + (t.parts.map (nodesN k)).sum := rfl; omega)
        have hk0 := (At.tr_cell HA.out).1
        clear HLn0 HLk0 hj hlt
        by_cases hk : t.kind < 8
        · have hk1 : decide (t.kind < 8) = true := decide_eq_true hk
          have HLs : Hid (looksR M (k + 1) L t = t.parts.foldl (looksR M k) L) := Lib.hid (by show (if _ then _ else _) = _; rw [if_pos hk])
          go_wp2_with fail
          go_ret
          exact ⟨_, L2, rfl, HPs.out, HLn.out, by rw [HLs.out]; exact HLk1.out, HB.out⟩
        · have hk1 : decide (t.kind < 8) = false := decide_eq_false hk
          have HLk : Hid (looksR M (k + 1) L t = oneR M L2 t) := Lib.hid (by rw [HLk1.out]; show (if _ then _ else _) = _; rw [if_neg hk])
          have HT0 : Hid (Tr.In wr M t) := Lib.hid ((HI.out.le (M - (k + 1))).next HB.out |> fun q => by rw [show k + 1 + (M - (k + 1)) = M by omega] at q; exact q)
          obtain ⟨A2, c2, hv2, _, _⟩ := id HPs.out
          subst hv2
          have hL63 : L2.length ≤ 9223372036854775807 := by have := HBg.out; omega
          obtain ⟨wb, hwb⟩ : ∃ wb, wb = wr := ⟨_, rfl⟩
          rw [← hwb] at HA HB HPs HT0 hk0 ⊢
          clear hwb
          go_wp2_with fail
          clear hk0
          go_loopw [27] (fun x wr => ∃ i : Nat, i ≤ L2.length ∧ x = .int .i64 i ∧ Hid (At wr w.heap.size 35 t.cs.toArray) ∧ Hid (Pats wr M (.slice A2 L2.length c2) L2) ∧ Hid (Tr.In wr M t) ∧ Hid (Below w.heap.size w wr) ∧ Hid ((L2.take i).any (fun q => sameS M 41 q (bareT t)) = false)) (fun x _ => L2.length - (intOf x).toNat)
          case atStart => exact ⟨0, Nat.zero_le _, rfl, HA, HPs, HT0, HB, Lib.hid (by simp)⟩
          case round =>
            clear HA HPs HT0 HB
            obtain ⟨i, hi, rfl, HA, HPs, HT, HB, HNy⟩ := hrel
            by_cases hil : i < L2.length
            · have hiz : (0 : Int) ≤ (i : Int) := by omega
              have hin : (i : Int) < (L2.length : Int) := by omega
              obtain ⟨A3, c3, e3, hrow, hall⟩ := HPs.out
              injection e3 with e3 _ e5
              subst e3 e5
              obtain ⟨b, off, rfl, hlt, hr⟩ := hrow (by omega)
              have HR := Lib.hid (hr i hil)
              have HR2 := Lib.hid hlt
              have HQ := Lib.hid (hall L2[i] (List.getElem_mem hil))
              have HTk := Lib.hid (any_take (f := fun q => sameS M 41 q (bareT t)) hil)
              have HMe := Lib.hid (List.getElem_mem hil)
              obtain ⟨q, hq⟩ : ∃ q, L2[i] = q := ⟨_, rfl⟩
              rw [hq] at HR HQ HTk HMe
              obtain ⟨sm, hsm⟩ : ∃ sm, sameS M 41 q (bareT t) = sm := ⟨_, rfl⟩
              have HSm := Lib.hid hsm
              clear hrow hall hr hq hsm hlt
              go_wp2_with fail
              cases sm
              · have hBo : Below wr.heap.size wr wr := Below.refl _ _
                refine wp_region_noPanic ?_
                refine wp_region_held_drew (S := (fun w' => w'.rangeAt w.heap.size 0 t.cs ∧ w'.rangeAt b (off + i * 9) q.cs)) (by kernel_rfl) (by first | exact ⟨tr_at_range (HA.out.below hBo HA.out.lt), range_below HR.out HR2.out (Nat.le_refl _) hBo⟩ | exact ⟨tr_at_range (HA.out.below hBo.drew HA.out.lt), range_below HR.out HR2.out (Nat.le_refl _) hBo.drew⟩) (fun hHeld => ?_)
                have hBo := hBo.drew
                refine wpAnyH_take (i := 0) (oi := ⟨some 30, _, _, _, _, _⟩) (v := ?_) rfl (by kernel_rfl) (by kernel_rfl) (by kernel_rfl) (fun _ _ _ h => h) (Or.inl ⟨by rfl, ?_⟩) (by exact hHeld) ?_
                rotate_left
                · (intro w hSw; (try dsimp only at hSw); go_simp; try (with_reducible rfl))
                simp only [Act.put, List.setIfInBounds_toArray, List.set_cons_zero, List.set_cons_succ]
                refine wpAnyH_take (i := 1) (oi := ⟨some 31, _, _, _, _, _⟩) (v := ?_) rfl (by kernel_rfl) (by kernel_rfl) (by kernel_rfl) (fun _ _ _ h => h) (Or.inl ⟨by rfl, ?_⟩) (by exact hHeld) ?_
                rotate_left
                · (intro w hSw; (try dsimp only at hSw); go_simp; try (with_reducible rfl))
                simp only [Act.put, List.setIfInBounds_toArray, List.set_cons_zero, List.set_cons_succ]
                refine wpAnyH_take (i := 2) (oi := ⟨some 32, _, _, _, _, _⟩) (v := ?_) rfl (by kernel_rfl) (by kernel_rfl) (by kernel_rfl) (fun _ _ _ h => h) (Or.inl ⟨by rfl, ?_⟩) (by exact hHeld) ?_
                rotate_left
                · (intro w hSw; (try dsimp only at hSw); go_simp; try (with_reducible rfl))
                simp only [Act.put, List.setIfInBounds_toArray, List.set_cons_zero, List.set_cons_succ]
                refine wpAnyH_take (i := 3) (oi := ⟨some 33, _, _, _, _, _⟩) (v := _) rfl (by kernel_rfl) (by kernel_rfl) (by kernel_rfl) (fun _ _ _ h => h) (yieldsIf_load_mid (by rfl) 35 _ rfl b (off + i * 9) rfl q.cs _ (fun _ h => h.2) Try.underlying35 rfl (by rw [Tr.cs_length]; kernel_rfl)) (by exact hHeld) ?_
                simp only [Act.put, List.setIfInBounds_toArray, List.set_cons_zero, List.set_cons_succ]
                refine wpAnyH_take (i := 4) (oi := ⟨some 34, _, _, _, _, _⟩) (v := _) rfl (by kernel_rfl) (by kernel_rfl) (by kernel_rfl) (fun _ _ _ h => h) (yieldsIf_load_mid (by rfl) 35 _ rfl w.heap.size 0 rfl t.cs _ (fun _ h => h.1) Try.underlying35 rfl (by rw [Tr.cs_length]; kernel_rfl)) (by exact hHeld) ?_
                simp only [Act.put, List.setIfInBounds_toArray, List.set_cons_zero, List.set_cons_succ]
                refine wpAnyH_ready (rs := [5]) (by kernel_rfl) (by simp) ?_
                refine AllReadyH.cons (o := ⟨some 35, _, _, _, _, _⟩) rfl (fun K hK => ?_) AllReadyH.nil
                go_simp
                ((with_reducible refine (refBare t _).mono ?_))
                rintro e w5 ⟨rfl, hb5⟩
                have hBo := below_step hBo hb5 rfl rfl rfl rfl
                clear hb5
                dsimp only
                refine hK.out _ _ ?_ (fun hHeld => ?_)
                · first | exact ⟨tr_at_range (HA.out.below hBo HA.out.lt), range_below HR.out HR2.out (Nat.le_refl _) hBo⟩ | exact ⟨tr_at_range (HA.out.below hBo.drew HA.out.lt), range_below HR.out HR2.out (Nat.le_refl _) hBo.drew⟩
                clear hK K
                try simp only [Act.put, List.setIfInBounds_toArray, List.set_cons_zero, List.set_cons_succ]
                refine wpAnyH_ready (rs := [6]) (by kernel_rfl) (by simp) ?_
                refine AllReadyH.cons (o := ⟨some 36, _, _, _, _, _⟩) rfl (fun K hK => ?_) AllReadyH.nil
                go_simp
                ((with_reducible refine (refSame M 41 q (bareT t) _ (by omega) (by omega) (HQ.out.next hBo) (bareT_in M t (HT.out.next hBo))).mono ?_))
                rintro e w6 ⟨rfl, hb6⟩
                have hBo := below_step hBo hb6 rfl rfl rfl rfl
                rw [HSm.out]
                clear hb6
                dsimp only
                refine hK.out _ _ ?_ (fun hHeld => ?_)
                · first | exact ⟨tr_at_range (HA.out.below hBo HA.out.lt), range_below HR.out HR2.out (Nat.le_refl _) hBo⟩ | exact ⟨tr_at_range (HA.out.below hBo.drew HA.out.lt), range_below HR.out HR2.out (Nat.le_refl _) hBo.drew⟩
                clear hK K
                try simp only [Act.put, List.setIfInBounds_toArray, List.set_cons_zero, List.set_cons_succ]
                refine wpAnyH_done (by kernel_rfl) ?_ _
                refine NoPanic.normal ?_
                go_wp2_with fail
                refine ⟨⟨i + 1, by omega, by go_num, Lib.hid (HA.out.below hBo HA.out.lt), Lib.hid (HPs.out.next hBo), Lib.hid (HT.out.next hBo), Lib.hid (HB.out.trans (hBo.mono HB.out.size)), Lib.hid (by rw [HTk.out, HNy.out, Bool.false_or]; exact HSm.out)⟩, by simp [intOf] <;> omega⟩
              · have hBo : Below wr.heap.size wr wr := Below.refl _ _
                refine wp_region_noPanic ?_
                refine wp_region_held_drew (S := (fun w' => w'.rangeAt w.heap.size 0 t.cs ∧ w'.rangeAt b (off + i * 9) q.cs)) (by kernel_rfl) (by first | exact ⟨tr_at_range (HA.out.below hBo HA.out.lt), range_below HR.out HR2.out (Nat.le_refl _) hBo⟩ | exact ⟨tr_at_range (HA.out.below hBo.drew HA.out.lt), range_below HR.out HR2.out (Nat.le_refl _) hBo.drew⟩) (fun hHeld => ?_)
                have hBo := hBo.drew
                refine wpAnyH_take (i := 0) (oi := ⟨some 30, _, _, _, _, _⟩) (v := ?_) rfl (by kernel_rfl) (by kernel_rfl) (by kernel_rfl) (fun _ _ _ h => h) (Or.inl ⟨by rfl, ?_⟩) (by exact hHeld) ?_
                rotate_left
                · (intro w hSw; (try dsimp only at hSw); go_simp; try (with_reducible rfl))
                simp only [Act.put, List.setIfInBounds_toArray, List.set_cons_zero, List.set_cons_succ]
                refine wpAnyH_take (i := 1) (oi := ⟨some 31, _, _, _, _, _⟩) (v := ?_) rfl (by kernel_rfl) (by kernel_rfl) (by kernel_rfl) (fun _ _ _ h => h) (Or.inl ⟨by rfl, ?_⟩) (by exact hHeld) ?_
                rotate_left
                · (intro w hSw; (try dsimp only at hSw); go_simp; try (with_reducible rfl))
                simp only [Act.put, List.setIfInBounds_toArray, List.set_cons_zero, List.set_cons_succ]
                refine wpAnyH_take (i := 2) (oi := ⟨some 32, _, _, _, _, _⟩) (v := ?_) rfl (by kernel_rfl) (by kernel_rfl) (by kernel_rfl) (fun _ _ _ h => h) (Or.inl ⟨by rfl, ?_⟩) (by exact hHeld) ?_
                rotate_left
                · (intro w hSw; (try dsimp only at hSw); go_simp; try (with_reducible rfl))
                simp only [Act.put, List.setIfInBounds_toArray, List.set_cons_zero, List.set_cons_succ]
                refine wpAnyH_take (i := 3) (oi := ⟨some 33, _, _, _, _, _⟩) (v := _) rfl (by kernel_rfl) (by kernel_rfl) (by kernel_rfl) (fun _ _ _ h => h) (yieldsIf_load_mid (by rfl) 35 _ rfl b (off + i * 9) rfl q.cs _ (fun _ h => h.2) Try.underlying35 rfl (by rw [Tr.cs_length]; kernel_rfl)) (by exact hHeld) ?_
                simp only [Act.put, List.setIfInBounds_toArray, List.set_cons_zero, List.set_cons_succ]
                refine wpAnyH_take (i := 4) (oi := ⟨some 34, _, _, _, _, _⟩) (v := _) rfl (by kernel_rfl) (by kernel_rfl) (by kernel_rfl) (fun _ _ _ h => h) (yieldsIf_load_mid (by rfl) 35 _ rfl w.heap.size 0 rfl t.cs _ (fun _ h => h.1) Try.underlying35 rfl (by rw [Tr.cs_length]; kernel_rfl)) (by exact hHeld) ?_
                simp only [Act.put, List.setIfInBounds_toArray, List.set_cons_zero, List.set_cons_succ]
                refine wpAnyH_ready (rs := [5]) (by kernel_rfl) (by simp) ?_
                refine AllReadyH.cons (o := ⟨some 35, _, _, _, _, _⟩) rfl (fun K hK => ?_) AllReadyH.nil
                go_simp
                ((with_reducible refine (refBare t _).mono ?_))
                rintro e w5 ⟨rfl, hb5⟩
                have hBo := below_step hBo hb5 rfl rfl rfl rfl
                clear hb5
                dsimp only
                refine hK.out _ _ ?_ (fun hHeld => ?_)
                · first | exact ⟨tr_at_range (HA.out.below hBo HA.out.lt), range_below HR.out HR2.out (Nat.le_refl _) hBo⟩ | exact ⟨tr_at_range (HA.out.below hBo.drew HA.out.lt), range_below HR.out HR2.out (Nat.le_refl _) hBo.drew⟩
                clear hK K
                try simp only [Act.put, List.setIfInBounds_toArray, List.set_cons_zero, List.set_cons_succ]
                refine wpAnyH_ready (rs := [6]) (by kernel_rfl) (by simp) ?_
                refine AllReadyH.cons (o := ⟨some 36, _, _, _, _, _⟩) rfl (fun K hK => ?_) AllReadyH.nil
                go_simp
                ((with_reducible refine (refSame M 41 q (bareT t) _ (by omega) (by omega) (HQ.out.next hBo) (bareT_in M t (HT.out.next hBo))).mono ?_))
                rintro e w6 ⟨rfl, hb6⟩
                have hBo := below_step hBo hb6 rfl rfl rfl rfl
                rw [HSm.out]
                clear hb6
                dsimp only
                refine hK.out _ _ ?_ (fun hHeld => ?_)
                · first | exact ⟨tr_at_range (HA.out.below hBo HA.out.lt), range_below HR.out HR2.out (Nat.le_refl _) hBo⟩ | exact ⟨tr_at_range (HA.out.below hBo.drew HA.out.lt), range_below HR.out HR2.out (Nat.le_refl _) hBo.drew⟩
                clear hK K
                try simp only [Act.put, List.setIfInBounds_toArray, List.set_cons_zero, List.set_cons_succ]
                refine wpAnyH_done (by kernel_rfl) ?_ _
                refine NoPanic.normal ?_
                go_wp2_with fail
                go_ret
                exact ⟨_, L2, rfl, HPs.out.next hBo, HLn.out, (by rw [HLk.out]; unfold oneR; rw [if_pos (List.any_eq_true.2 ⟨q, HMe.out, HSm.out⟩)]), HB.out.trans (hBo.mono HB.out.size)⟩
            · obtain rfl : i = L2.length := by omega
              obtain ⟨wo, hwo⟩ : ∃ wo, wo = wr := ⟨_, rfl⟩
              rw [← hwo] at HA HPs HT HB ⊢
              clear hwo
              go_wp2_with fail
              have hBo : Below wo.heap.size wo wo := Below.refl _ _
              refine wp_region_noPanic ?_
              refine wp_region_held_drew (S := (fun w' => w'.rangeAt w.heap.size 0 t.cs)) (by kernel_rfl) (by first | exact tr_at_range (HA.out.below hBo HA.out.lt) | exact tr_at_range (HA.out.below hBo.drew HA.out.lt)) (fun hHeld => ?_)
              have hBo := hBo.drew
              refine wpAnyH_take (i := 1) (oi := ⟨some 40, _, _, _, _, _⟩) (v := ?_) rfl (by kernel_rfl) (by kernel_rfl) (by kernel_rfl) (fun _ _ _ h => h) (Or.inl ⟨by rfl, ?_⟩) (by exact hHeld) ?_
              rotate_left
              · (intro w hSw; (try dsimp only at hSw); go_simp; try (with_reducible rfl))
              simp only [Act.put, List.setIfInBounds_toArray, List.set_cons_zero, List.set_cons_succ]
              refine wpAnyH_take (i := 3) (oi := ⟨some 42, _, _, _, _, _⟩) (v := _) rfl (by kernel_rfl) (by kernel_rfl) (by kernel_rfl) (fun _ _ _ h => h) (yieldsIf_load_mid (by rfl) 35 _ rfl w.heap.size 0 rfl t.cs _ (fun _ h => h) Try.underlying35 rfl (by rw [Tr.cs_length]; kernel_rfl)) (by exact hHeld) ?_
              simp only [Act.put, List.setIfInBounds_toArray, List.set_cons_zero, List.set_cons_succ]
              refine wpAnyH_ready (rs := [0]) (by kernel_rfl) (by simp) ?_
              refine AllReadyH.cons (o := ⟨some 39, _, _, _, _, _⟩) rfl (fun K hK => ?_) AllReadyH.nil
              refine stepq_slice0 rfl rfl run_re0 (fun g0 w4 h4 hb4 hg0 => ?_)
              have hg0 : wo.heap.size ≤ g0 := Nat.le_trans hBo.size hg0
              have hBo := below_step hBo hb4 rfl rfl rfl rfl
              clear hb4
              try dsimp only
              refine hK.out _ _ ?_ (fun hHeld => ?_)
              · first | exact tr_at_range (HA.out.below hBo HA.out.lt) | exact tr_at_range (HA.out.below hBo.drew HA.out.lt)
              clear hK K
              try simp only [Act.put, List.setIfInBounds_toArray, List.set_cons_zero, List.set_cons_succ]
              refine wpAnyH_ready (rs := [2]) (by kernel_rfl) (by simp) ?_
              refine AllReadyH.cons (o := ⟨some 41, _, _, _, _, _⟩) rfl (fun K hK => ?_) AllReadyH.nil
              refine stepq_append rfl _ _ 22 rfl _ _ rfl rfl (append_pats _ wo.heap.size g0 M A2 L2.length c2 L2 _ h4 hg0 hBo.size (HPs.out.next hBo) (by have := HBg.out; omega)) ?_
              rintro v5 w5 ⟨hrow, hgr⟩
              have hBo := hBo.grown hgr hBo.size (fun b e => by injection e with e; omega)
              clear hgr h4
              refine hK.out _ _ ?_ (fun hHeld => ?_)
              · first | exact tr_at_range (HA.out.below hBo HA.out.lt) | exact tr_at_range (HA.out.below hBo.drew HA.out.lt)
              clear hK K
              try simp only [Act.put, List.setIfInBounds_toArray, List.set_cons_zero, List.set_cons_succ]
              refine wpAnyH_ready (rs := [4]) (by kernel_rfl) (by simp) ?_
              refine AllReadyH.cons (o := ⟨some 43, _, _, _, _, _⟩) rfl (fun K hK => ?_) AllReadyH.nil
              go_simp
              ((with_reducible refine (refBare t _).mono ?_))
              rintro e w6 ⟨rfl, hb6⟩
              have hrow := ResRow.step hrow hb6 rfl
              have hBo := below_step hBo hb6 rfl rfl rfl rfl
              clear hb6
              dsimp only
              refine hK.out _ _ ?_ (fun hHeld => ?_)
              · first | exact tr_at_range (HA.out.below hBo HA.out.lt) | exact tr_at_range (HA.out.below hBo.drew HA.out.lt)
              clear hK K
              try simp only [Act.put, List.setIfInBounds_toArray, List.set_cons_zero, List.set_cons_succ]
              refine wpAnyH_ready (rs := [5]) (by kernel_rfl) (by simp) ?_
              refine AllReadyH.cons (o := ⟨some 44, _, _, _, _, _⟩) rfl (fun K hK => ?_) AllReadyH.nil
              refine stepq_slice1 22 35 (bareT t).cs.toArray rfl _ (.agg (bareT t).cs.toArray) rfl rfl (run_re1 (bareT t)) (fun g8 w7 h8 hb7 hg8 => ?_)
              have hrow := ResRow.step hrow hb7 rfl
              have hBo := below_step hBo hb7 rfl rfl rfl rfl
              clear hb7
              try dsimp only
              refine hK.out _ _ ?_ (fun hHeld => ?_)
              · first | exact tr_at_range (HA.out.below hBo HA.out.lt) | exact tr_at_range (HA.out.below hBo.drew HA.out.lt)
              clear hK K
              try simp only [Act.put, List.setIfInBounds_toArray, List.set_cons_zero, List.set_cons_succ]
              refine wpAnyH_ready (rs := [6]) (by kernel_rfl) (by simp) ?_
              refine AllReadyH.cons (o := ⟨some 45, _, _, _, _, _⟩) rfl (fun K hK => ?_) AllReadyH.nil
              refine stepq_append rfl _ _ 22 rfl _ _ rfl rfl (append_re _ wo.heap.size g8 v5 L2 (bareT t) _ hrow h8 hBo.size (by have := HBg.out; omega)) ?_
              rintro v6 w8 ⟨hrow6, hgr⟩
              have hBo := hBo.grown hgr hBo.size (fun b e => (World.ownsRow.lt hrow b e).1)
              have hrow := hrow6
              clear hgr h8 hrow6
              refine hK.out _ _ ?_ (fun hHeld => ?_)
              · first | exact tr_at_range (HA.out.below hBo HA.out.lt) | exact tr_at_range (HA.out.below hBo.drew HA.out.lt)
              clear hK K
              try simp only [Act.put, List.setIfInBounds_toArray, List.set_cons_zero, List.set_cons_succ]
              refine wpAnyH_take (i := 7) (oi := ⟨some 4, _, _, _, _, _⟩) (v := ?_) rfl (by kernel_rfl) (by kernel_rfl) (by kernel_rfl) (fun _ _ _ h => h) (Or.inl ⟨by rfl, ?_⟩) (by exact hHeld) ?_
              rotate_left
              · (intro w hSw; (try dsimp only at hSw); go_simp; try (with_reducible rfl))
              simp only [Act.put, List.setIfInBounds_toArray, List.set_cons_zero, List.set_cons_succ]
              refine wpAnyH_done (by kernel_rfl) ?_ _
              refine NoPanic.normal ?_
              go_wp2_with fail
              go_ret
              refine ⟨_, L2 ++ [bareT t], rfl, hrow.pats (fun u hu => ?_), ?_, (by rw [HLk.out]; unfold oneR; rw [if_neg (by have := HNy.out; rw [List.take_length] at this; rw [this]; decide)]), HB.out.trans (hBo.mono HB.out.size)⟩
              · rw [List.mem_append, List.mem_singleton] at hu
                rcases hu with hu | rfl
                · obtain ⟨_, _, _, _, hin⟩ := HPs.out
                  exact (hin u hu).next hBo
                · exact bareT_in M t (HT.out.next hBo)
              · rw [List.length_append, List.length_singleton]; exact HLm.out

set_option maxRecDepth 100000 in
set_option maxHeartbeats 4000000 in
theorem refLate (M : Nat) (v : Value) (L : List Tr) (w : World) (hP : Pats w M v L) (hl : L.length ≤ 1000000) :
    Calls Try.prog 10 #[v] w fun e w' => e = .returned (.bool (L.any (fun q => decide (q.kind = 8) || decide (q.kind = 11)))) ∧ Below w.heap.size w w' := by
  obtain ⟨A, c, rfl, hrow, _⟩ := hP
  have HR := Lib.hid hrow
  clear hrow
  go_enter Try.func10, Try.ntmps10
  go_wp2_with fail
  go_loopw [6] (fun i wr => ∃ j : Nat, j ≤ L.length ∧ i = .int .i64 j ∧ Hid ((L.take j).any (fun q => decide (q.kind = 8) || decide (q.kind = 11)) = false) ∧ Hid (Below w.heap.size w wr)) (fun i _ => L.length - (intOf i).toNat)
  case atStart => exact ⟨0, Nat.zero_le _, rfl, Lib.hid (by rw [List.take_zero]; rfl), Lib.hid (Below.refl _ _)⟩
  case round =>
    obtain ⟨j, hj, rfl, HN, HB⟩ := hrel
    by_cases hlt : j < L.length
    · obtain ⟨b1, o1, rfl, hb1, hr1⟩ := HR.out (by omega)
      have y0 : wr.cell? ⟨b1, o1 + j * 9, none⟩ = some (.int .i64 L[j].kind) := (range_below (hr1 j hlt) hb1 (Nat.le_refl _) HB.out) 0 (.int .i64 L[j].kind) rfl
      have HTk := Lib.hid (any_take (f := fun q => decide (q.kind = 8) || decide (q.kind = 11)) hlt)
      have HMe := Lib.hid (List.getElem_mem hlt)
      have hjz : (0 : Int) ≤ (j : Int) := by omega
      have hjn : (j : Int) < (L.length : Int) := by omega
      obtain ⟨q, hq⟩ : ∃ q, q = L[j] := ⟨_, rfl⟩
      rw [← hq] at y0 HTk HMe
      clear hb1 hr1 hq
      by_cases h8 : q.kind = 8
      · have d8 := (int_eq h8).1
        have HF : Hid (L.any (fun q => decide (q.kind = 8) || decide (q.kind = 11)) = true) := Lib.hid (List.any_eq_true.2 ⟨q, HMe.out, by rw [decide_eq_true h8]; rfl⟩)
        clear h8
        go_wp2_with fail
        go_ret
        exact ⟨ret_bool HF.out.symm, HB.out⟩
      · have d8 := (int_ne h8).1
        by_cases h11 : q.kind = 11
        · have d11 := (int_eq h11).1
          have HF : Hid (L.any (fun q => decide (q.kind = 8) || decide (q.kind = 11)) = true) := Lib.hid (List.any_eq_true.2 ⟨q, HMe.out, by rw [decide_eq_true h11, Bool.or_true]⟩)
          clear h8 h11
          go_wp2_with fail
          go_ret
          exact ⟨ret_bool HF.out.symm, HB.out⟩
        · have d11 := (int_ne h11).1
          have HF : Hid ((L.take (j + 1)).any (fun q => decide (q.kind = 8) || decide (q.kind = 11)) = false) := Lib.hid (by rw [HTk.out, HN.out, decide_eq_false h8, decide_eq_false h11]; rfl)
          clear h8 h11
          go_wp2_with fail
          exact ⟨⟨j + 1, by omega, by go_num, HF, HB⟩, by simp [intOf]; omega⟩
    · obtain rfl : j = L.length := by omega
      have HF : Hid (L.any (fun q => decide (q.kind = 8) || decide (q.kind = 11)) = false) := Lib.hid (by have h := HN.out; rw [List.take_length] at h; exact h)
      go_wp2_with fail
      go_ret
      exact ⟨ret_bool HF.out.symm, HB.out⟩

end Go.Proofs.Ytjkcbojlopdonaa
