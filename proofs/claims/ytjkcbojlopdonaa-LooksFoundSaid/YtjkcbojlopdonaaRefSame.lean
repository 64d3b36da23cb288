/- What the reference's Same answers. -/
import Derived.Test.YtjkcbojlopdonaaProg
import Derived.Test.YtjkcbojlopdonaaWords
import Derived.Test.YtjkcbojlopdonaaMaa
import Derived.Test.YtjkcbojlopdonaaMae
import Derived.Test.YtjkcbojlopdonaaTr
import Derived.Test.YtjkcbojlopdonaaMab
import Derived.Deep.RegionHeld3
namespace Go.Proofs.Ytjkcbojlopdonaa
open Go.RowKit
set_option linter.unusedSimpArgs false
set_option linter.unusedVariables false

theorem below_two {w : World} (a b : Obj) : Below w.heap.size w ((w.alloc a).alloc b) := ((Below.refl _ _).alloc (Nat.le_refl _) _).alloc (by simp) _

set_option maxRecDepth 100000 in
set_option maxHeartbeats 8000000 in
theorem refSame : ∀ (k : Nat) (m : Int) (a b : Tr) (w : World), 0 ≤ m → m ≤ 1000 → Tr.In w k a → Tr.In w k b →
    Calls Try.prog 11 #[.agg a.cs.toArray, .agg b.cs.toArray, .int .i64 m] w fun e w' => e = .returned (.bool (sameS k m a b)) ∧ Below w.heap.size w w'
  | 0, _, _, _, _, _, _, h, _ => h.elim
  | k + 1, m, a, b, w, hm0, hm1, hia, hib => by
    have hla : a.parts.length ≤ 9223372036854775807 := by have := hia.2.1; omega
    have hlb : b.parts.length ≤ 9223372036854775807 := by have := hib.2.1; omega
    have hna := hia.2.1.1
    have hnb := hib.2.1.1
    have HNa := Lib.hid hna
    have HNb := Lib.hid hnb
    have HIa := Lib.hid hia
    have HIb := Lib.hid hib
    clear hia hib
    have HA0 := Lib.hid ((At.new w 35 a.cs.toArray).alloc (Obj.cells b.cs.toArray 35))
    have HB0 := Lib.hid (at_new' (w.alloc (Obj.cells a.cs.toArray 35)) (w.heap.size + 1) 35 (cs := b.cs.toArray) (by simp))
    obtain ⟨a0, a5, a6, a7, a8⟩ := At.tr_cell HA0.out
    obtain ⟨b0, b5, b6, b7, b8⟩ := At.tr_cell HB0.out
    obtain ⟨s1, s2, s3, s4⟩ := At.tr_set HA0.out
    obtain ⟨r1, r2, r3, r4⟩ := At.tr_set HB0.out
    go_enter Try.func11, Try.ntmps11
    by_cases hm : m < 1
    · have HF := Lib.hid (sameS_low (k := k) (a := a) (b := b) hm)
      have dm : decide (m < 1) = true := by rw [decide_eq_true_iff]; exact hm
      go_wp2_with fail
      go_ret
      exact ⟨ret_bool HF.out.symm, below_two _ _⟩
    · have HM := Lib.hid hm
      have dm : decide (m < 1) = false := by rw [decide_eq_false_iff_not]; exact hm
      by_cases h1 : a.kind = b.kind
      · have d1 := (int_eq h1).1
        have d1x := (int_eq h1).2
        by_cases h2 : a.set.eqb b.set = true
        · have d2 := fun W => setEq W a.set b.set true h2
          by_cases h3 : a.lo = b.lo
          · have d3 := (int_eq h3).1
            have d3x := (int_eq h3).2
            by_cases h4 : a.hi = b.hi
            · have d4 := (int_eq h4).1
              have d4x := (int_eq h4).2
              by_cases h5 : a.neg = b.neg
              · have d5 := (bool_eq h5).1
                have d5x := (bool_eq h5).2
                by_cases h6 : a.parts.length = b.parts.length
                · have d6 := (int_eq (show (a.parts.length : Int) = (b.parts.length : Int) by omega)).1
                  have d6x := (int_eq (show (a.parts.length : Int) = (b.parts.length : Int) by omega)).2
                  have HO := Lib.hid (own_yes h1 h2 h3 h4 h5 h6)
                  have H6 := Lib.hid h6
                  clear h1 h2 h3 h4 h5 h6
                  go_wp2_with fail
                  clear d1 d1x d2 d3 d3x d4 d4x d5 d5x d6 d6x a0 a6 a7 a8 b0 b6 b7 b8 s1 s2 s3 s4 r1 r2 r3 r4 a5 b5
                  go_loopw [57] (fun i wr => ∃ j : Nat, j ≤ a.parts.length ∧ i = .int .i64 j ∧ Hid (sameTo k (m - 1) a b j = true) ∧ Hid (At wr w.heap.size 35 a.cs.toArray) ∧ Hid (At wr (w.heap.size + 1) 35 b.cs.toArray) ∧ Hid (Below w.heap.size w wr)) (fun i _ => a.parts.length - (intOf i).toNat)
                  case atStart => exact ⟨0, Nat.zero_le _, rfl, Lib.hid (sameTo_zero _ _ _ _), HA0, HB0, Lib.hid (below_two _ _)⟩
                  case round =>
                    obtain ⟨j, hj, rfl, hT, hAh, hBbh, hBh⟩ := hrel
                    have hA := hAh.out
                    have hBb := hBbh.out
                    have hB := hBh.out
                    by_cases hlt : j < a.parts.length
                    · have hltb : j < b.parts.length := by have := H6.out; omega
                      obtain ⟨ga, oa, ha, hga, hra⟩ := HIa.out.2.2.1 (by rw [HNa.out]; omega)
                      obtain ⟨gb, ob, hb, hgb, hrb⟩ := HIb.out.2.2.1 (by rw [HNb.out]; omega)
                      have HAa := Lib.hid ha
                      have HAb := Lib.hid hb
                      have hrA := range_below (hra j hlt) hga (Nat.le_refl _) hB
                      have hrB := range_below (hrb j hltb) hgb (Nat.le_refl _) hB
                      have HPa := Lib.hid (Tr.In.next (HIa.out.2.2.2 j hlt) hB)
                      have HPb := Lib.hid (Tr.In.next (HIb.out.2.2.2 j hltb) hB)
                      clear ha hb hga hgb hra hrb
                      have hj0 : (0 : Int) ≤ (j : Int) := by omega
                      have hw1 : IntKind.i64.wrap (m - 1) = m - 1 := by rw [IntKind.wrap_i64]; omega
                      have hja : (j : Int) < (a.parts.length : Int) := by omega
                      have hjb : (j : Int) < (b.parts.length : Int) := by omega
                      obtain ⟨v, hv⟩ : ∃ v : Bool, sameS k (m - 1) a.parts[j] b.parts[j] = v := ⟨_, rfl⟩
                      have HV := Lib.hid hv
                      clear hv
                      cases v
                      · go_wp2_with fail
                        refine wp_region_noPanic ?_
                        refine wp_region_held_drew (S := (fun w' => w'.cell? ⟨w.heap.size, 5, none⟩ = some (.slice (some ⟨ga, oa, none⟩) a.parts.length a.cap) ∧ w'.cell? ⟨w.heap.size + 1, 5, none⟩ = some (.slice (some ⟨gb, ob, none⟩) b.parts.length b.cap) ∧ w'.rangeAt ga (oa + j * 9) a.parts[j].cs ∧ w'.rangeAt gb (ob + j * 9) b.parts[j].cs)) (by kernel_rfl) (by exact ⟨tr5 hA HAa.out HNa.out, tr5 hBb HAb.out HNb.out, hrA, hrB⟩) (fun hHeld => ?_)
                        refine wpAnyH_take (i := 0) (oi := ⟨some 60, _, _, _, _, _⟩) (v := ?_) rfl (by kernel_rfl) (by kernel_rfl) (by kernel_rfl) (fun _ _ _ h => h) (Or.inl ⟨by rfl, ?_⟩) (by exact hHeld) ?_
                        rotate_left
                        · (intro w hSw; (try dsimp only at hSw); go_simp; try (with_reducible rfl))
                        simp only [Act.put, List.setIfInBounds_toArray, List.set_cons_zero, List.set_cons_succ]
                        refine wpAnyH_take (i := 1) (oi := ⟨some 61, _, _, _, _, _⟩) (v := ?_) rfl (by kernel_rfl) (by kernel_rfl) (by kernel_rfl) (fun _ _ _ h => h) (Or.inl ⟨by rfl, ?_⟩) (by exact hHeld) ?_
                        rotate_left
                        · (intro w hSw; (try dsimp only at hSw); have hS1 := hSw.1; go_simp; try (with_reducible rfl))
                        simp only [Act.put, List.setIfInBounds_toArray, List.set_cons_zero, List.set_cons_succ]
                        refine wpAnyH_take (i := 2) (oi := ⟨some 62, _, _, _, _, _⟩) (v := ?_) rfl (by kernel_rfl) (by kernel_rfl) (by kernel_rfl) (fun _ _ _ h => h) (Or.inl ⟨by rfl, ?_⟩) (by exact hHeld) ?_
                        rotate_left
                        · (intro w hSw; (try dsimp only at hSw); go_simp; try (with_reducible rfl))
                        simp only [Act.put, List.setIfInBounds_toArray, List.set_cons_zero, List.set_cons_succ]
                        refine wpAnyH_take (i := 3) (oi := ⟨some 63, _, _, _, _, _⟩) (v := ?_) rfl (by kernel_rfl) (by kernel_rfl) (by kernel_rfl) (fun _ _ _ h => h) (Or.inl ⟨by rfl, ?_⟩) (by exact hHeld) ?_
                        rotate_left
                        · (intro w hSw; (try dsimp only at hSw); go_simp; try (with_reducible rfl))
                        simp only [Act.put, List.setIfInBounds_toArray, List.set_cons_zero, List.set_cons_succ]
                        refine wpAnyH_take (i := 4) (oi := ⟨some 64, _, _, _, _, _⟩) (v := _) rfl (by kernel_rfl) (by kernel_rfl) (by kernel_rfl) (fun _ _ _ h => h) (yieldsIf_load_mid (by rfl) 35 _ rfl ga (oa + j * 9) rfl a.parts[j].cs _ (fun _ h => h.2.2.1) Try.underlying35 rfl (by rw [Tr.cs_length]; kernel_rfl)) (by exact hHeld) ?_
                        simp only [Act.put, List.setIfInBounds_toArray, List.set_cons_zero, List.set_cons_succ]
                        refine wpAnyH_take (i := 5) (oi := ⟨some 65, _, _, _, _, _⟩) (v := ?_) rfl (by kernel_rfl) (by kernel_rfl) (by kernel_rfl) (fun _ _ _ h => h) (Or.inl ⟨by rfl, ?_⟩) (by exact hHeld) ?_
                        rotate_left
                        · (intro w hSw; (try dsimp only at hSw); go_simp; try (with_reducible rfl))
                        simp only [Act.put, List.setIfInBounds_toArray, List.set_cons_zero, List.set_cons_succ]
                        refine wpAnyH_take (i := 6) (oi := ⟨some 66, _, _, _, _, _⟩) (v := ?_) rfl (by kernel_rfl) (by kernel_rfl) (by kernel_rfl) (fun _ _ _ h => h) (Or.inl ⟨by rfl, ?_⟩) (by exact hHeld) ?_
                        rotate_left
                        · (intro w hSw; (try dsimp only at hSw); have hS1 := hSw.2.1; go_simp; try (with_reducible rfl))
                        simp only [Act.put, List.setIfInBounds_toArray, List.set_cons_zero, List.set_cons_succ]
                        refine wpAnyH_take (i := 7) (oi := ⟨some 67, _, _, _, _, _⟩) (v := ?_) rfl (by kernel_rfl) (by kernel_rfl) (by kernel_rfl) (fun _ _ _ h => h) (Or.inl ⟨by rfl, ?_⟩) (by exact hHeld) ?_
                        rotate_left
                        · (intro w hSw; (try dsimp only at hSw); go_simp; try (with_reducible rfl))
                        simp only [Act.put, List.setIfInBounds_toArray, List.set_cons_zero, List.set_cons_succ]
                        refine wpAnyH_take (i := 8) (oi := ⟨some 68, _, _, _, _, _⟩) (v := ?_) rfl (by kernel_rfl) (by kernel_rfl) (by kernel_rfl) (fun _ _ _ h => h) (Or.inl ⟨by rfl, ?_⟩) (by exact hHeld) ?_
                        rotate_left
                        · (intro w hSw; (try dsimp only at hSw); go_simp; try (with_reducible rfl))
                        simp only [Act.put, List.setIfInBounds_toArray, List.set_cons_zero, List.set_cons_succ]
                        refine wpAnyH_take (i := 9) (oi := ⟨some 69, _, _, _, _, _⟩) (v := _) rfl (by kernel_rfl) (by kernel_rfl) (by kernel_rfl) (fun _ _ _ h => h) (yieldsIf_load_mid (by rfl) 35 _ rfl gb (ob + j * 9) rfl b.parts[j].cs _ (fun _ h => h.2.2.2) Try.underlying35 rfl (by rw [Tr.cs_length]; kernel_rfl)) (by exact hHeld) ?_
                        simp only [Act.put, List.setIfInBounds_toArray, List.set_cons_zero, List.set_cons_succ]
                        refine wpAnyH_take (i := 10) (oi := ⟨some 70, _, _, _, _, _⟩) (v := ?_) rfl (by kernel_rfl) (by kernel_rfl) (by kernel_rfl) (fun _ _ _ h => h) (Or.inl ⟨by rfl, ?_⟩) (by exact hHeld) ?_
                        rotate_left
                        · (intro w hSw; (try dsimp only at hSw); go_simp; try (with_reducible rfl))
                        simp only [Act.put, List.setIfInBounds_toArray, List.set_cons_zero, List.set_cons_succ]
                        refine wpAnyH_take (i := 11) (oi := ⟨some 71, _, _, _, _, _⟩) (v := ?_) rfl (by kernel_rfl) (by kernel_rfl) (by kernel_rfl) (fun _ _ _ h => h) (Or.inl ⟨by rfl, ?_⟩) (by exact hHeld) ?_
                        rotate_left
                        · (intro w hSw; (try dsimp only at hSw); go_simp; try (with_reducible rfl))
                        simp only [Act.put, List.setIfInBounds_toArray, List.set_cons_zero, List.set_cons_succ]
                        refine wpAnyH_ready (rs := [12]) (by kernel_rfl) (by simp) ?_
                        refine AllReadyH.cons (o := ⟨some 72, _, _, _, _, _⟩) rfl (fun K hK => ?_) AllReadyH.nil
                        go_simp
                        ((with_reducible refine (refSame k (m - 1) a.parts[j] b.parts[j] wr.drew (by omega) (by omega) HPa.out.drew HPb.out.drew).mono ?_))
                        rintro e w3 ⟨rfl, hb3⟩
                        have hA := hA.step hb3 rfl
                        have hBb := hBb.step hb3 rfl
                        have hB := below_step hB hb3 rfl rfl rfl rfl
                        have hrA := tr_range_step hrA hb3 rfl
                        have hrB := tr_range_step hrB hb3 rfl
                        clear hb3
                        rw [HV.out]
                        dsimp only
                        refine hK.out _ _ ?_ (fun hHeld => ?_)
                        · exact ⟨tr5 hA HAa.out HNa.out, tr5 hBb HAb.out HNb.out, hrA, hrB⟩
                        clear hK K
                        try simp only [Act.put, List.setIfInBounds_toArray, List.set_cons_zero, List.set_cons_succ]
                        refine wpAnyH_take (i := 13) (oi := ⟨some 73, _, _, _, _, _⟩) (v := ?_) rfl (by kernel_rfl) (by kernel_rfl) (by kernel_rfl) (fun _ _ _ h => h) (Or.inl ⟨by rfl, ?_⟩) (by exact hHeld) ?_
                        rotate_left
                        · (intro w hSw; (try dsimp only at hSw); go_simp; try (with_reducible rfl))
                        simp only [Act.put, List.setIfInBounds_toArray, List.set_cons_zero, List.set_cons_succ]
                        refine wpAnyH_done (by kernel_rfl) ?_ _
                        refine NoPanic.normal ?_
                        go_wp2_with fail
                        go_ret
                        exact ⟨ret_bool (sameS_not hlt H6.out HV.out).symm, hB⟩
                      · go_wp2_with fail
                        refine wp_region_noPanic ?_
                        refine wp_region_held_drew (S := (fun w' => w'.cell? ⟨w.heap.size, 5, none⟩ = some (.slice (some ⟨ga, oa, none⟩) a.parts.length a.cap) ∧ w'.cell? ⟨w.heap.size + 1, 5, none⟩ = some (.slice (some ⟨gb, ob, none⟩) b.parts.length b.cap) ∧ w'.rangeAt ga (oa + j * 9) a.parts[j].cs ∧ w'.rangeAt gb (ob + j * 9) b.parts[j].cs)) (by kernel_rfl) (by exact ⟨tr5 hA HAa.out HNa.out, tr5 hBb HAb.out HNb.out, hrA, hrB⟩) (fun hHeld => ?_)
                        refine wpAnyH_take (i := 0) (oi := ⟨some 60, _, _, _, _, _⟩) (v := ?_) rfl (by kernel_rfl) (by kernel_rfl) (by kernel_rfl) (fun _ _ _ h => h) (Or.inl ⟨by rfl, ?_⟩) (by exact hHeld) ?_
                        rotate_left
                        · (intro w hSw; (try dsimp only at hSw); go_simp; try (with_reducible rfl))
                        simp only [Act.put, List.setIfInBounds_toArray, List.set_cons_zero, List.set_cons_succ]
                        refine wpAnyH_take (i := 1) (oi := ⟨some 61, _, _, _, _, _⟩) (v := ?_) rfl (by kernel_rfl) (by kernel_rfl) (by kernel_rfl) (fun _ _ _ h => h) (Or.inl ⟨by rfl, ?_⟩) (by exact hHeld) ?_
                        rotate_left
                        · (intro w hSw; (try dsimp only at hSw); have hS1 := hSw.1; go_simp; try (with_reducible rfl))
                        simp only [Act.put, List.setIfInBounds_toArray, List.set_cons_zero, List.set_cons_succ]
                        refine wpAnyH_take (i := 2) (oi := ⟨some 62, _, _, _, _, _⟩) (v := ?_) rfl (by kernel_rfl) (by kernel_rfl) (by kernel_rfl) (fun _ _ _ h => h) (Or.inl ⟨by rfl, ?_⟩) (by exact hHeld) ?_
                        rotate_left
                        · (intro w hSw; (try dsimp only at hSw); go_simp; try (with_reducible rfl))
                        simp only [Act.put, List.setIfInBounds_toArray, List.set_cons_zero, List.set_cons_succ]
                        refine wpAnyH_take (i := 3) (oi := ⟨some 63, _, _, _, _, _⟩) (v := ?_) rfl (by kernel_rfl) (by kernel_rfl) (by kernel_rfl) (fun _ _ _ h => h) (Or.inl ⟨by rfl, ?_⟩) (by exact hHeld) ?_
                        rotate_left
                        · (intro w hSw; (try dsimp only at hSw); go_simp; try (with_reducible rfl))
                        simp only [Act.put, List.setIfInBounds_toArray, List.set_cons_zero, List.set_cons_succ]
                        refine wpAnyH_take (i := 4) (oi := ⟨some 64, _, _, _, _, _⟩) (v := _) rfl (by kernel_rfl) (by kernel_rfl) (by kernel_rfl) (fun _ _ _ h => h) (yieldsIf_load_mid (by rfl) 35 _ rfl ga (oa + j * 9) rfl a.parts[j].cs _ (fun _ h => h.2.2.1) Try.underlying35 rfl (by rw [Tr.cs_length]; kernel_rfl)) (by exact hHeld) ?_
                        simp only [Act.put, List.setIfInBounds_toArray, List.set_cons_zero, List.set_cons_succ]
                        refine wpAnyH_take (i := 5) (oi := ⟨some 65, _, _, _, _, _⟩) (v := ?_) rfl (by kernel_rfl) (by kernel_rfl) (by kernel_rfl) (fun _ _ _ h => h) (Or.inl ⟨by rfl, ?_⟩) (by exact hHeld) ?_
                        rotate_left
                        · (intro w hSw; (try dsimp only at hSw); go_simp; try (with_reducible rfl))
                        simp only [Act.put, List.setIfInBounds_toArray, List.set_cons_zero, List.set_cons_succ]
                        refine wpAnyH_take (i := 6) (oi := ⟨some 66, _, _, _, _, _⟩) (v := ?_) rfl (by kernel_rfl) (by kernel_rfl) (by kernel_rfl) (fun _ _ _ h => h) (Or.inl ⟨by rfl, ?_⟩) (by exact hHeld) ?_
                        rotate_left
                        · (intro w hSw; (try dsimp only at hSw); have hS1 := hSw.2.1; go_simp; try (with_reducible rfl))
                        simp only [Act.put, List.setIfInBounds_toArray, List.set_cons_zero, List.set_cons_succ]
                        refine wpAnyH_take (i := 7) (oi := ⟨some 67, _, _, _, _, _⟩) (v := ?_) rfl (by kernel_rfl) (by kernel_rfl) (by kernel_rfl) (fun _ _ _ h => h) (Or.inl ⟨by rfl, ?_⟩) (by exact hHeld) ?_
                        rotate_left
                        · (intro w hSw; (try dsimp only at hSw); go_simp; try (with_reducible rfl))
                        simp only [Act.put, List.setIfInBounds_toArray, List.set_cons_zero, List.set_cons_succ]
                        refine wpAnyH_take (i := 8) (oi := ⟨some 68, _, _, _, _, _⟩) (v := ?_) rfl (by kernel_rfl) (by kernel_rfl) (by kernel_rfl) (fun _ _ _ h => h) (Or.inl ⟨by rfl, ?_⟩) (by exact hHeld) ?_
                        rotate_left
                        · (intro w hSw; (try dsimp only at hSw); go_simp; try (with_reducible rfl))
                        simp only [Act.put, List.setIfInBounds_toArray, List.set_cons_zero, List.set_cons_succ]
                        refine wpAnyH_take (i := 9) (oi := ⟨some 69, _, _, _, _, _⟩) (v := _) rfl (by kernel_rfl) (by kernel_rfl) (by kernel_rfl) (fun _ _ _ h => h) (yieldsIf_load_mid (by rfl) 35 _ rfl gb (ob + j * 9) rfl b.parts[j].cs _ (fun _ h => h.2.2.2) Try.underlying35 rfl (by rw [Tr.cs_length]; kernel_rfl)) (by exact hHeld) ?_
                        simp only [Act.put, List.setIfInBounds_toArray, List.set_cons_zero, List.set_cons_succ]
                        refine wpAnyH_take (i := 10) (oi := ⟨some 70, _, _, _, _, _⟩) (v := ?_) rfl (by kernel_rfl) (by kernel_rfl) (by kernel_rfl) (fun _ _ _ h => h) (Or.inl ⟨by rfl, ?_⟩) (by exact hHeld) ?_
                        rotate_left
                        · (intro w hSw; (try dsimp only at hSw); go_simp; try (with_reducible rfl))
                        simp only [Act.put, List.setIfInBounds_toArray, List.set_cons_zero, List.set_cons_succ]
                        refine wpAnyH_take (i := 11) (oi := ⟨some 71, _, _, _, _, _⟩) (v := ?_) rfl (by kernel_rfl) (by kernel_rfl) (by kernel_rfl) (fun _ _ _ h => h) (Or.inl ⟨by rfl, ?_⟩) (by exact hHeld) ?_
                        rotate_left
                        · (intro w hSw; (try dsimp only at hSw); go_simp; try (with_reducible rfl))
                        simp only [Act.put, List.setIfInBounds_toArray, List.set_cons_zero, List.set_cons_succ]
                        refine wpAnyH_ready (rs := [12]) (by kernel_rfl) (by simp) ?_
                        refine AllReadyH.cons (o := ⟨some 72, _, _, _, _, _⟩) rfl (fun K hK => ?_) AllReadyH.nil
                        go_simp
                        ((with_reducible refine (refSame k (m - 1) a.parts[j] b.parts[j] wr.drew (by omega) (by omega) HPa.out.drew HPb.out.drew).mono ?_))
                        rintro e w3 ⟨rfl, hb3⟩
                        have hA := hA.step hb3 rfl
                        have hBb := hBb.step hb3 rfl
                        have hB := below_step hB hb3 rfl rfl rfl rfl
                        have hrA := tr_range_step hrA hb3 rfl
                        have hrB := tr_range_step hrB hb3 rfl
                        clear hb3
                        rw [HV.out]
                        dsimp only
                        refine hK.out _ _ ?_ (fun hHeld => ?_)
                        · exact ⟨tr5 hA HAa.out HNa.out, tr5 hBb HAb.out HNb.out, hrA, hrB⟩
                        clear hK K
                        try simp only [Act.put, List.setIfInBounds_toArray, List.set_cons_zero, List.set_cons_succ]
                        refine wpAnyH_take (i := 13) (oi := ⟨some 73, _, _, _, _, _⟩) (v := ?_) rfl (by kernel_rfl) (by kernel_rfl) (by kernel_rfl) (fun _ _ _ h => h) (Or.inl ⟨by rfl, ?_⟩) (by exact hHeld) ?_
                        rotate_left
                        · (intro w hSw; (try dsimp only at hSw); go_simp; try (with_reducible rfl))
                        simp only [Act.put, List.setIfInBounds_toArray, List.set_cons_zero, List.set_cons_succ]
                        refine wpAnyH_done (by kernel_rfl) ?_ _
                        refine NoPanic.normal ?_
                        go_wp2_with fail
                        exact ⟨⟨j + 1, by omega, by go_num, Lib.hid (sameTo_succ hlt H6.out hT.out HV.out), Lib.hid hA, Lib.hid hBb, Lib.hid hB⟩, by simp [intOf]; omega⟩
                    · obtain rfl : j = a.parts.length := by omega
                      go_wp2_with fail
                      go_ret
                      exact ⟨ret_bool (sameS_yes (by have := HM.out; omega) HO.out hT.out H6.out).symm, hB⟩
                · have d6 := (int_ne (show ¬ (a.parts.length : Int) = (b.parts.length : Int) by omega)).1
                  have d6x := (int_ne (show ¬ (a.parts.length : Int) = (b.parts.length : Int) by omega)).2
                  have HF := Lib.hid (sameS_own (k := k) (m := m) (own_len h6))
                  clear h6
                  (try clear h1)
                  (try clear h2)
                  (try clear h3)
                  (try clear h4)
                  (try clear h5)
                  (try clear h6)
                  go_wp2_with fail
                  go_ret
                  exact ⟨ret_bool HF.out.symm, below_two _ _⟩
              · have d5 := (bool_ne h5).1
                have d5x := (bool_ne h5).2
                have HF := Lib.hid (sameS_own (k := k) (m := m) (own_neg h5))
                clear h5
                (try clear h1)
                (try clear h2)
                (try clear h3)
                (try clear h4)
                (try clear h5)
                (try clear h6)
                go_wp2_with fail
                go_ret
                exact ⟨ret_bool HF.out.symm, below_two _ _⟩
            · have d4 := (int_ne h4).1
              have d4x := (int_ne h4).2
              have HF := Lib.hid (sameS_own (k := k) (m := m) (own_hi h4))
              clear h4
              (try clear h1)
              (try clear h2)
              (try clear h3)
              (try clear h4)
              (try clear h5)
              (try clear h6)
              go_wp2_with fail
              go_ret
              exact ⟨ret_bool HF.out.symm, below_two _ _⟩
          · have d3 := (int_ne h3).1
            have d3x := (int_ne h3).2
            have HF := Lib.hid (sameS_own (k := k) (m := m) (own_lo h3))
            clear h3
            (try clear h1)
            (try clear h2)
            (try clear h3)
            (try clear h4)
            (try clear h5)
            (try clear h6)
            go_wp2_with fail
            go_ret
            exact ⟨ret_bool HF.out.symm, below_two _ _⟩
        · have h2x : a.set.eqb b.set = false := by simpa using h2
          have d2 := fun W => setEq W a.set b.set false h2x
          have HF := Lib.hid (sameS_own (k := k) (m := m) (own_set h2x))
          clear h2
          (try clear h1)
          (try clear h2)
          (try clear h3)
          (try clear h4)
          (try clear h5)
          (try clear h6)
          go_wp2_with fail
          go_ret
          exact ⟨ret_bool HF.out.symm, below_two _ _⟩
      · have d1 := (int_ne h1).1
        have d1x := (int_ne h1).2
        have HF := Lib.hid (sameS_own (k := k) (m := m) (own_kind h1))
        clear h1
        (try clear h1)
        (try clear h2)
        (try clear h3)
        (try clear h4)
        (try clear h5)
        (try clear h6)
        go_wp2_with fail
        go_ret
        exact ⟨ret_bool HF.out.symm, below_two _ _⟩

end Go.Proofs.Ytjkcbojlopdonaa
