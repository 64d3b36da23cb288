/- slices.Reverse on a row of patterns of the call's own. -/
import Derived.Test.YtignekgckkdgiaaProg
import Derived.Test.YtignekgckkdgiaaRowTr
import Derived.Test.YtignekgckkdgiaaBoxTr
import Derived.Test.YtignekgckkdgiaaFormed
import Derived.Deep.RegionHeld3
namespace Go.Proofs.Ytignekgckkdgiaa
open Go.RowKit
set_option linter.unusedSimpArgs false
set_option linter.unusedVariables false

/-- m from each end have changed places. -/
def swapTo (f : Nat → Tr) (n m : Nat) (p : Nat) : Tr := if p < m ∨ n ≤ p + m then f (n - 1 - p) else f p
theorem swapTo_zero (f : Nat → Tr) (n p : Nat) (h : p < n) : swapTo f n 0 p = f p := by unfold swapTo; rw [if_neg (by omega)]
theorem swapTo_end (f : Nat → Tr) (n m p : Nat) (h : p < n) (hm : n ≤ 2 * m + 1) : swapTo f n m p = f (n - 1 - p) := by
  unfold swapTo
  by_cases q : p < m ∨ n ≤ p + m
  · rw [if_pos q]
  · rw [if_neg q, show n - 1 - p = p by omega]
theorem swapTo_step (f : Nat → Tr) (n m j p : Nat) (hj : j = n - 1 - m) (hm : m < j) (hp : p < n) : (if p = j then swapTo f n m m else if p = m then swapTo f n m j else swapTo f n m p) = swapTo f n (m + 1) p := by
  unfold swapTo
  by_cases q1 : p = j
  · rw [if_pos q1, if_neg (by omega), if_pos (by omega), show n - 1 - p = m by omega]
  · rw [if_neg q1]
    by_cases q2 : p = m
    · rw [if_pos q2, if_neg (by omega), if_pos (by omega), show n - 1 - p = j by omega]
    · rw [if_neg q2]
      by_cases q3 : p < m ∨ n ≤ p + m
      · rw [if_pos q3, if_pos (by omega)]
      · rw [if_neg q3, if_neg (by omega)]

set_option maxRecDepth 100000 in
set_option maxHeartbeats 8000000 in
theorem reverseTr (g n c : Nat) (f : Nat → Tr) (w : World) (hn : n ≤ 1000000) (h : RowTr w g n f) :
    Calls Try.prog 43 #[.slice (some ⟨g, 0, none⟩) n c] w fun e w' => e = .returned (.tuple #[]) ∧ RowTr w' g n (fun p => f (n - 1 - p)) ∧ Only g w w' := by
  have H := Lib.hid (h.congr (fun p hp => (swapTo_zero f n p hp).symm))
  clear h
  go_enter Try.func43, Try.ntmps43
  go_wp2_with fail
  go_loopw [2, 3] (fun iv jv wr => ∃ (m : Nat) (jz : Int), iv = .int .i64 m ∧ jv = .int .i64 jz ∧ (jz = (n : Int) - 1 - m ∧ m ≤ n) ∧ Hid (RowTr wr g n (swapTo f n m)) ∧ Hid (Only g w wr)) (fun iv _ _ => n - (intOf iv).toNat)
  case atStart => exact ⟨0, (n : Int) - 1, rfl, rfl, by omega, H, Lib.hid (Only.refl _ _)⟩
  case round =>
    clear H
    obtain ⟨m, jz, rfl, rfl, ⟨hj, hmn⟩, H, HO⟩ := hrel
    by_cases hlt : (m : Int) < jz
    · obtain ⟨j, hjn⟩ : ∃ j : Nat, jz = (j : Int) := ⟨n - 1 - m, by omega⟩
      subst hjn
      have hj' : j = n - 1 - m := by omega
      have HJ := Lib.hid hj'
      have hjlt : j < n := by omega
      have hmlt : m < n := by omega
      have hm0 : (0 : Int) ≤ (m : Int) := by omega
      have hj0 : (0 : Int) ≤ (j : Int) := by omega
      have hm1 : (m : Int) < (n : Int) := by omega
      have hj1 : (j : Int) < (n : Int) := by omega
      have hml : m < j := by omega
      obtain ⟨tm, htm0⟩ : ∃ t, swapTo f n m m = t := ⟨_, rfl⟩
      obtain ⟨tj, htj0⟩ : ∃ t, swapTo f n m j = t := ⟨_, rfl⟩
      have hrm := (H.out.drew.at_ m hmlt)
      have hrj := (H.out.drew.at_ j hjlt)
      have htm := (H.out.drew.there m hmlt)
      have hR1 := H.out.drew.put hmlt tj
      have htj2 := hR1.there j hjlt
      have hR2 := hR1.put hjlt tm
      have hE : ∀ p, p < n → (if p = j then tm else if p = m then tj else swapTo f n m p) = swapTo f n (m + 1) p := fun p hp => by
        rw [← htm0, ← htj0]; exact swapTo_step f n m j p HJ.out hml hp
      rw [htm0] at hrm
      rw [htj0] at hrj
      have HR2 := Lib.hid (hR2.congr hE)
      have HO2 := Lib.hid (((HO.out.drew).cells (m * 9) tj.cs).cells (j * 9) tm.cs)
      clear hR1 hR2 hE htm0 htj0 hj hj'
      go_wp2_with fail
      refine wp_region_noPanic ?_
      refine wp_region_held_drew (S := (fun _ => True)) (by kernel_rfl) (by trivial) (fun hHeld => ?_)
      refine wpAnyH_take (i := 0) (oi := ⟨some 14, _, _, _, _, _⟩) (v := ?_) rfl (by kernel_rfl) (by kernel_rfl) (by kernel_rfl) (fun _ _ _ h => h) (Or.inl ⟨by rfl, ?_⟩) (by exact hHeld) ?_
      rotate_left
      · (intro w hSw; (try dsimp only at hSw); go_simp; try (with_reducible rfl))
      simp only [Act.put, List.setIfInBounds_toArray, List.set_cons_zero, List.set_cons_succ]
      refine wpAnyH_take (i := 1) (oi := ⟨some 15, _, _, _, _, _⟩) (v := ?_) rfl (by kernel_rfl) (by kernel_rfl) (by kernel_rfl) (fun _ _ _ h => h) (Or.inl ⟨by rfl, ?_⟩) (by exact hHeld) ?_
      rotate_left
      · (intro w hSw; (try dsimp only at hSw); go_simp; try (with_reducible rfl))
      simp only [Act.put, List.setIfInBounds_toArray, List.set_cons_zero, List.set_cons_succ]
      refine wpAnyH_take (i := 2) (oi := ⟨some 16, _, _, _, _, _⟩) (v := ?_) rfl (by kernel_rfl) (by kernel_rfl) (by kernel_rfl) (fun _ _ _ h => h) (Or.inl ⟨by rfl, ?_⟩) (by exact hHeld) ?_
      rotate_left
      · (intro w hSw; (try dsimp only at hSw); go_simp; try (with_reducible rfl))
      simp only [Act.put, List.setIfInBounds_toArray, List.set_cons_zero, List.set_cons_succ]
      refine wpAnyH_take (i := 3) (oi := ⟨some 17, _, _, _, _, _⟩) (v := ?_) rfl (by kernel_rfl) (by kernel_rfl) (by kernel_rfl) (fun _ _ _ h => h) (Or.inl ⟨by rfl, ?_⟩) (by exact hHeld) ?_
      rotate_left
      · (intro w hSw; (try dsimp only at hSw); go_simp; try (with_reducible rfl))
      simp only [Act.put, List.setIfInBounds_toArray, List.set_cons_zero, List.set_cons_succ]
      refine wpAnyH_take (i := 4) (oi := ⟨some 18, _, _, _, _, _⟩) (v := ?_) rfl (by kernel_rfl) (by kernel_rfl) (by kernel_rfl) (fun _ _ _ h => h) (Or.inl ⟨by rfl, ?_⟩) (by exact hHeld) ?_
      rotate_left
      · (intro w hSw; (try dsimp only at hSw); go_simp; try (with_reducible rfl))
      simp only [Act.put, List.setIfInBounds_toArray, List.set_cons_zero, List.set_cons_succ]
      refine wpAnyH_take (i := 5) (oi := ⟨some 19, _, _, _, _, _⟩) (v := ?_) rfl (by kernel_rfl) (by kernel_rfl) (by kernel_rfl) (fun _ _ _ h => h) (Or.inl ⟨by rfl, ?_⟩) (by exact hHeld) ?_
      rotate_left
      · (intro w hSw; (try dsimp only at hSw); go_simp; try (with_reducible rfl))
      simp only [Act.put, List.setIfInBounds_toArray, List.set_cons_zero, List.set_cons_succ]
      refine wpAnyH_take (i := 6) (oi := ⟨some 20, _, _, _, _, _⟩) (v := ?_) rfl (by kernel_rfl) (by kernel_rfl) (by kernel_rfl) (fun _ _ _ h => h) (Or.inl ⟨by rfl, ?_⟩) (by exact hHeld) ?_
      rotate_left
      · (intro w hSw; (try dsimp only at hSw); go_simp; try (with_reducible rfl))
      simp only [Act.put, List.setIfInBounds_toArray, List.set_cons_zero, List.set_cons_succ]
      refine wpAnyH_take (i := 8) (oi := ⟨some 22, _, _, _, _, _⟩) (v := ?_) rfl (by kernel_rfl) (by kernel_rfl) (by kernel_rfl) (fun _ _ _ h => h) (Or.inl ⟨by rfl, ?_⟩) (by exact hHeld) ?_
      rotate_left
      · (intro w hSw; (try dsimp only at hSw); go_simp; try (with_reducible rfl))
      simp only [Act.put, List.setIfInBounds_toArray, List.set_cons_zero, List.set_cons_succ]
      refine wpAnyH_take (i := 9) (oi := ⟨some 23, _, _, _, _, _⟩) (v := ?_) rfl (by kernel_rfl) (by kernel_rfl) (by kernel_rfl) (fun _ _ _ h => h) (Or.inl ⟨by rfl, ?_⟩) (by exact hHeld) ?_
      rotate_left
      · (intro w hSw; (try dsimp only at hSw); go_simp; try (with_reducible rfl))
      simp only [Act.put, List.setIfInBounds_toArray, List.set_cons_zero, List.set_cons_succ]
      refine wpAnyH_take (i := 10) (oi := ⟨some 24, _, _, _, _, _⟩) (v := ?_) rfl (by kernel_rfl) (by kernel_rfl) (by kernel_rfl) (fun _ _ _ h => h) (Or.inl ⟨by rfl, ?_⟩) (by exact hHeld) ?_
      rotate_left
      · (intro w hSw; (try dsimp only at hSw); go_simp; try (with_reducible rfl))
      simp only [Act.put, List.setIfInBounds_toArray, List.set_cons_zero, List.set_cons_succ]
      refine wpAnyH_ready (rs := [7, 11]) (by kernel_rfl) (by simp) ?_
      refine AllReadyH.cons (o := ⟨some 21, _, _, _, _, _⟩) rfl (fun K hK => ?_) ?_
      · refine step_load_mid (by rfl) 27 _ (by rfl) g (j * 9) (by rfl) tj.cs _ hrj Try.underlying27 rfl (by rw [Tr.cs_length]; kernel_rfl) ?_
        refine hK.out _ _ ?_ (fun hHeld => ?_)
        · trivial
        clear hK K
        try simp only [Act.put, List.setIfInBounds_toArray, List.set_cons_zero, List.set_cons_succ]
        refine wpAnyH_ready (rs := [11]) (by kernel_rfl) (by simp) ?_
        refine AllReadyH.cons (o := ⟨some 25, _, _, _, _, _⟩) rfl (fun K hK => ?_) AllReadyH.nil
        refine step_load_mid (by rfl) 27 _ (by rfl) g (m * 9) (by rfl) tm.cs _ hrm Try.underlying27 rfl (by rw [Tr.cs_length]; kernel_rfl) ?_
        refine hK.out _ _ ?_ (fun hHeld => ?_)
        · trivial
        clear hK K
        try simp only [Act.put, List.setIfInBounds_toArray, List.set_cons_zero, List.set_cons_succ]
        refine wpAnyH_take (i := 12) (oi := ⟨some 26, _, _, _, _, _⟩) (v := ?_) rfl (by kernel_rfl) (by kernel_rfl) (by kernel_rfl) (fun _ _ _ h => h) (Or.inl ⟨by rfl, ?_⟩) (by exact hHeld) ?_
        rotate_left
        · (intro w hSw; (try dsimp only at hSw); go_simp; try (with_reducible rfl))
        simp only [Act.put, List.setIfInBounds_toArray, List.set_cons_zero, List.set_cons_succ]
        refine wpAnyH_ready (rs := [13]) (by kernel_rfl) (by simp) ?_
        refine AllReadyH.cons (o := ⟨none, _, _, _, _, _⟩) rfl (fun K hK => ?_) AllReadyH.nil
        refine step_store_mid (by rfl) 27 _ _ (by rfl) g (m * 9) tj.cs.toArray (by rfl) (by rfl) htm (by kernel_rfl) (Tr.one _) ?_
        refine hK.out _ _ ?_ (fun hHeld => ?_)
        · trivial
        clear hK K
        try simp only [Act.put, List.setIfInBounds_toArray, List.set_cons_zero, List.set_cons_succ]
        generalize hW5 : wr.drew.setCells g (m * 9) tj.cs = w5 at htj2 HR2 HO2 ⊢
        clear hW5
        refine wpAnyH_take (i := 14) (oi := ⟨some 27, _, _, _, _, _⟩) (v := ?_) rfl (by kernel_rfl) (by kernel_rfl) (by kernel_rfl) (fun _ _ _ h => h) (Or.inl ⟨by rfl, ?_⟩) (by exact hHeld) ?_
        rotate_left
        · (intro w hSw; (try dsimp only at hSw); go_simp; try (with_reducible rfl))
        simp only [Act.put, List.setIfInBounds_toArray, List.set_cons_zero, List.set_cons_succ]
        refine wpAnyH_ready (rs := [15]) (by kernel_rfl) (by simp) ?_
        refine AllReadyH.cons (o := ⟨none, _, _, _, _, _⟩) rfl (fun K hK => ?_) AllReadyH.nil
        refine step_store_mid (by rfl) 27 _ _ (by rfl) g (j * 9) tm.cs.toArray (by rfl) (by rfl) htj2 (by kernel_rfl) (Tr.one _) ?_
        refine hK.out _ _ ?_ (fun hHeld => ?_)
        · trivial
        clear hK K
        try simp only [Act.put, List.setIfInBounds_toArray, List.set_cons_zero, List.set_cons_succ]
        refine wpAnyH_done (by kernel_rfl) ?_ _
        refine NoPanic.normal ?_
        go_wp2_with fail
        exact ⟨⟨m + 1, (j : Int) - 1, by go_num, by go_num, by have := HJ.out; omega, HR2, HO2⟩, by simp [intOf]; omega⟩
      refine AllReadyH.cons (o := ⟨some 25, _, _, _, _, _⟩) rfl (fun K hK => ?_) AllReadyH.nil
      · refine step_load_mid (by rfl) 27 _ (by rfl) g (m * 9) (by rfl) tm.cs _ hrm Try.underlying27 rfl (by rw [Tr.cs_length]; kernel_rfl) ?_
        refine hK.out _ _ ?_ (fun hHeld => ?_)
        · trivial
        clear hK K
        try simp only [Act.put, List.setIfInBounds_toArray, List.set_cons_zero, List.set_cons_succ]
        refine wpAnyH_ready (rs := [7]) (by kernel_rfl) (by simp) ?_
        refine AllReadyH.cons (o := ⟨some 21, _, _, _, _, _⟩) rfl (fun K hK => ?_) AllReadyH.nil
        refine step_load_mid (by rfl) 27 _ (by rfl) g (j * 9) (by rfl) tj.cs _ hrj Try.underlying27 rfl (by rw [Tr.cs_length]; kernel_rfl) ?_
        refine hK.out _ _ ?_ (fun hHeld => ?_)
        · trivial
        clear hK K
        try simp only [Act.put, List.setIfInBounds_toArray, List.set_cons_zero, List.set_cons_succ]
        refine wpAnyH_take (i := 12) (oi := ⟨some 26, _, _, _, _, _⟩) (v := ?_) rfl (by kernel_rfl) (by kernel_rfl) (by kernel_rfl) (fun _ _ _ h => h) (Or.inl ⟨by rfl, ?_⟩) (by exact hHeld) ?_
        rotate_left
        · (intro w hSw; (try dsimp only at hSw); go_simp; try (with_reducible rfl))
        simp only [Act.put, List.setIfInBounds_toArray, List.set_cons_zero, List.set_cons_succ]
        refine wpAnyH_ready (rs := [13]) (by kernel_rfl) (by simp) ?_
        refine AllReadyH.cons (o := ⟨none, _, _, _, _, _⟩) rfl (fun K hK => ?_) AllReadyH.nil
        refine step_store_mid (by rfl) 27 _ _ (by rfl) g (m * 9) tj.cs.toArray (by rfl) (by rfl) htm (by kernel_rfl) (Tr.one _) ?_
        refine hK.out _ _ ?_ (fun hHeld => ?_)
        · trivial
        clear hK K
        try simp only [Act.put, List.setIfInBounds_toArray, List.set_cons_zero, List.set_cons_succ]
        generalize hW5 : wr.drew.setCells g (m * 9) tj.cs = w5 at htj2 HR2 HO2 ⊢
        clear hW5
        refine wpAnyH_take (i := 14) (oi := ⟨some 27, _, _, _, _, _⟩) (v := ?_) rfl (by kernel_rfl) (by kernel_rfl) (by kernel_rfl) (fun _ _ _ h => h) (Or.inl ⟨by rfl, ?_⟩) (by exact hHeld) ?_
        rotate_left
        · (intro w hSw; (try dsimp only at hSw); go_simp; try (with_reducible rfl))
        simp only [Act.put, List.setIfInBounds_toArray, List.set_cons_zero, List.set_cons_succ]
        refine wpAnyH_ready (rs := [15]) (by kernel_rfl) (by simp) ?_
        refine AllReadyH.cons (o := ⟨none, _, _, _, _, _⟩) rfl (fun K hK => ?_) AllReadyH.nil
        refine step_store_mid (by rfl) 27 _ _ (by rfl) g (j * 9) tm.cs.toArray (by rfl) (by rfl) htj2 (by kernel_rfl) (Tr.one _) ?_
        refine hK.out _ _ ?_ (fun hHeld => ?_)
        · trivial
        clear hK K
        try simp only [Act.put, List.setIfInBounds_toArray, List.set_cons_zero, List.set_cons_succ]
        refine wpAnyH_done (by kernel_rfl) ?_ _
        refine NoPanic.normal ?_
        go_wp2_with fail
        exact ⟨⟨m + 1, (j : Int) - 1, by go_num, by go_num, by have := HJ.out; omega, HR2, HO2⟩, by simp [intOf]; omega⟩
    · have HE := Lib.hid (H.out.congr (fun p hp => swapTo_end f n m p hp (by omega)))
      have hd : decide ((m : Int) < jz) = false := dec_f hlt
      clear hj
      go_wp2_with fail
      go_end0
      exact ⟨rfl, HE.out, HO.out⟩

set_option maxRecDepth 100000 in
theorem reverseNil (n : Nat) (hn : n = 0) (w : World) :
    Calls Try.prog 43 #[.slice none n 0] w fun e w' => e = .returned (.tuple #[]) ∧ Below w.heap.size w w' := by
  subst hn
  go_enter Try.func43, Try.ntmps43
  go_wp2_with fail
  go_loopw [2, 3] (fun iv jv wr => iv = .int .i64 0 ∧ jv = .int .i64 (-1) ∧ Hid (Below w.heap.size w wr)) (fun _ _ _ => 0)
  case atStart => exact ⟨rfl, rfl, Lib.hid (Below.refl _ _)⟩
  case round =>
    obtain ⟨rfl, rfl, hB⟩ := hrel
    go_wp2_with fail
    go_end0
    exact ⟨rfl, hB.out⟩

end Go.Proofs.Ytignekgckkdgiaa
