/- What tree's sizeFrom, Size and Formed answer. -/
import Derived.Test.YtjkcbojlopdonaaProg
import Derived.Test.YtjkcbojlopdonaaTreeFormed
namespace Go.Proofs.Ytjkcbojlopdonaa
open Go.RowKit
set_option linter.unusedSimpArgs false
set_option linter.unusedVariables false

def SizeFromAt (k : Nat) : Prop := ∀ (t : Tr) (L : Int) (w : World), 1 ≤ L → L ≤ 41 → Tr.In w k t → Calls Try.prog 33 #[.agg t.cs.toArray, .int .i64 L] w fun e w' => e = .returned (.int .i64 (sizeF k L t)) ∧ Below w.heap.size w w'
set_option maxRecDepth 100000 in
set_option maxHeartbeats 8000000 in
theorem treeSizeFrom : ∀ k, SizeFromAt k
  | 0 => fun _ _ _ _ _ h => h.elim
  | k + 1 => fun t L w hL1 hL2 h => by
    have hlen : t.parts.length ≤ 9223372036854775807 := by have := h.2.1; omega
    have hn := h.2.1.1
    have HN := Lib.hid hn
    have HI := Lib.hid h
    have HIH := Lib.hid (treeSizeFrom k)
    have HC := Lib.hid (At.tr_cell (At.new w 35 t.cs.toArray))
    clear h
    have c5 := HC.out.2.1
    rw [hn] at c5
    clear hn
    go_enter Try.func33, Try.ntmps33
    by_cases hd : 40 < L
    · have dd := dec_t hd
      have HF := Lib.hid (sizeF_deep k t hd)
      go_wp2_with fail
      go_ret
      exact ⟨ret_int HF.out.symm, (Below.refl _ _).alloc (Nat.le_refl _) _⟩
    · have dd := dec_f hd
      have HD := Lib.hid hd
      have hL3 : L ≤ 40 := by omega
      go_wp2_with fail
      go_loopw [5, 14] (fun x i wr => ∃ (j : Nat) (xv : Int), j ≤ t.parts.length ∧ i = .int .i64 j ∧ x = .int .i64 xv ∧ (0 ≤ xv ∧ xv ≤ 1000) ∧ Hid (sizeFTo k (L + 1) t j = xv) ∧ Hid (At wr w.heap.size 35 t.cs.toArray) ∧ Hid (Below w.heap.size w wr)) (fun _ i _ => t.parts.length - (intOf i).toNat)
      case atStart => exact ⟨0, 0, Nat.zero_le _, rfl, rfl, by omega, Lib.hid (sizeFTo_zero _ _ _), Lib.hid (At.new _ _ _), Lib.hid ((Below.refl _ _).alloc (Nat.le_refl _) _)⟩
      case round =>
        clear c5
        obtain ⟨j, x, hj, rfl, rfl, ⟨hx1, hx2⟩, HX, hA, hB⟩ := hrel
        by_cases hlt : j < t.parts.length
        · obtain ⟨b, off, ha, hb, hr⟩ := HI.out.2.2.1 (by rw [HN.out]; omega)
          have HR := Lib.hid (range_below (hr j hlt) hb (Nat.le_refl _) hB.out)
          have HP := Lib.hid (Tr.In.next (HI.out.2.2.2 j hlt) hB.out)
          have hA2 := boxW_at wr t.parts[j]
          have HP2 := Lib.hid (HP.out.next (boxW_next wr t.parts[j]))
          have hy0 := sizeF_ge k (L + 1) t.parts[j]
          have hy1 := sizeF_le k (L + 1) t.parts[j]
          obtain ⟨y, hy⟩ : ∃ y : Int, sizeF k (L + 1) t.parts[j] = y := ⟨_, rfl⟩
          have HE : Hid (1001 ≤ x + y → sizeF (k + 1) L t = 1001) := fun q => sizeF_early k t (show ¬ 40 < L by omega) j hlt (by rw [HX.out, hy]; exact q)
          have HSu : Hid (sizeFTo k (L + 1) t (j + 1) = cut1001 (x + y)) := by have := sizeFTo_succ k (L + 1) t j hlt; rw [HX.out, hy] at this; exact this
          rw [hy] at hy0 hy1
          have HY := Lib.hid hy
          clear hr hb hy
          rw [ha]
          clear ha
          have hjz : (0 : Int) ≤ (j : Int) := by omega
          have hjn : (j : Int) < (t.parts.length : Int) := by omega
          go_wp2_with (first
            | (refine wpList_load_mid rfl 35 _ rfl b (off + j * 9) rfl t.parts[j].cs _ HR.out Try.underlying35 rfl (by rw [Tr.cs_length]; kernel_rfl) ?_)
            | (refine wpList_store_row rfl 35 _ _ rfl wr.heap.size t.parts[j].cs.toArray rfl rfl 35 Tr.blank.cs.toArray (At.new _ _ _) (by kernel_rfl) rfl (Tr.one _) ?_; change Exit.then _ _ _ _ (boxW wr t.parts[j]))
            | (refine wpList_load_row rfl 35 _ rfl wr.heap.size rfl 35 t.parts[j].cs.toArray (0, 0) _ hA2 Try.underlying35 rfl (by kernel_rfl) ?_) | fail)
          refine (HIH.out t.parts[j] _ _ (by omega) (by omega) HP2.out).mono ?_
          rintro e w3 ⟨rfl, hb3⟩
          rw [HY.out]
          have HBx := boxW_below hB.out t.parts[j]
          have HA := Lib.hid ((hA.out.below (boxW_next wr t.parts[j]) hA.out.lt).below hb3 (by rw [boxW_size]; have := hA.out.lt; omega))
          have HB := Lib.hid (HBx.trans (hb3.mono HBx.size))
          clear hb3 hA2 HBx
          by_cases hg : 1001 ≤ x + y
          · have dg := dec_t hg
            have HF := Lib.hid (HE.out hg)
            go_wp2_with fail
            go_ret
            exact ⟨ret_int HF.out.symm, HB.out⟩
          · have dg := dec_f hg
            have HX2 : Hid (sizeFTo k (L + 1) t (j + 1) = x + y) := by rw [HSu.out, cut1001_no (by omega)]; exact rfl
            go_wp2_with fail
            exact ⟨⟨j + 1, x + y, by omega, by go_num, rfl, by omega, HX2, HA, HB⟩, by simp [intOf]; omega⟩
        · obtain rfl : j = t.parts.length := by omega
          have hS := sizeF_end k t (show ¬ 40 < L by omega)
          rw [HX.out] at hS
          obtain ⟨c0, c5, c6, c7, c8⟩ := At.tr_cell hA.out
          obtain ⟨lo, hlo⟩ : ∃ lo : Int, t.lo = lo := ⟨_, rfl⟩
          obtain ⟨hi, hhi⟩ : ∃ hi : Int, t.hi = hi := ⟨_, rfl⟩
          rw [hlo] at c6 hS
          rw [hhi] at c7 hS
          have hd0 := hx1
          have HS := Lib.hid hS
          clear hlo hhi hS c5 c8
          by_cases h7 : t.kind = 7
          · have d7 := (int_eq h7).1
            have H7 := Lib.hid h7
            clear h7
            by_cases hx0 : 0 < x
            · have dx := dec_t hx0
              by_cases h1 : hi ≤ lo
              · have d1 := dec_t h1
                by_cases h2 : 1 ≤ lo
                · have d2 := dec_t h2
                  by_cases hm : lo ≤ 1001
                  · have hT : oftenS t.kind lo hi x = lo := by unfold oftenS maxT; rw [if_pos ⟨H7.out, hx0⟩]; unfold cut1001; (repeat' split) <;> omega
                    rw [hT] at HS
                    clear hT
                    have hmb := mul_bounds (x := x) (T := lo) hd0 (by omega) (by omega) (by omega)
                    have e1 : wrap64 (x * lo) = x * lo := wrap_same (by unfold I64; omega)
                    have e2 : wrap64 (1 + x * lo) = 1 + x * lo := wrap_same (by unfold I64; omega)
                    have dm := dec_t hm
                    by_cases hg : 1001 < 1 + x * lo
                    · rw [cut1001_yes hg] at HS
                      have hg2 : ¬ 1 + x * lo ≤ 1001 := by omega
                      have dg := dec_f hg2
                      go_wp2_with fail
                      go_ret
                      exact ⟨ret_int HS.out, hB.out⟩
                    · rw [cut1001_no hg] at HS
                      have hg2 : 1 + x * lo ≤ 1001 := by omega
                      have dg := dec_t hg2
                      go_wp2_with fail
                      go_ret
                      exact ⟨ret_int HS.out, hB.out⟩
                  · have hT : oftenS t.kind lo hi x = 1001 := by unfold oftenS maxT; rw [if_pos ⟨H7.out, hx0⟩]; unfold cut1001; (repeat' split) <;> omega
                    rw [hT] at HS
                    clear hT
                    have hmb := mul_bounds (x := x) (T := 1001) hd0 (by omega) (by omega) (by omega)
                    have e1 : wrap64 (x * 1001) = x * 1001 := wrap_same (by unfold I64; omega)
                    have e2 : wrap64 (1 + x * 1001) = 1 + x * 1001 := wrap_same (by unfold I64; omega)
                    have dm := dec_f hm
                    rw [cut1001_yes (by omega)] at HS
                    have hg2 : ¬ 1 + x * 1001 ≤ 1001 := by omega
                    have dg := dec_f hg2
                    go_wp2_with fail
                    go_ret
                    exact ⟨ret_int HS.out, hB.out⟩
                · have d2 := dec_f h2
                  have hT : oftenS t.kind lo hi x = 1 := by unfold oftenS maxT; rw [if_pos ⟨H7.out, hx0⟩]; unfold cut1001; (repeat' split) <;> omega
                  rw [hT, Int.mul_one, cut1001_no (by omega)] at HS
                  clear hT
                  have hg : 1 + x ≤ 1001 := by omega
                  have dg := dec_t hg
                  go_wp2_with fail
                  go_ret
                  exact ⟨ret_int HS.out, hB.out⟩
              · have d1 := dec_f h1
                by_cases h2 : 1 ≤ hi
                · have d2 := dec_t h2
                  by_cases hm : hi ≤ 1001
                  · have hT : oftenS t.kind lo hi x = hi := by unfold oftenS maxT; rw [if_pos ⟨H7.out, hx0⟩]; unfold cut1001; (repeat' split) <;> omega
                    rw [hT] at HS
                    clear hT
                    have hmb := mul_bounds (x := x) (T := hi) hd0 (by omega) (by omega) (by omega)
                    have e1 : wrap64 (x * hi) = x * hi := wrap_same (by unfold I64; omega)
                    have e2 : wrap64 (1 + x * hi) = 1 + x * hi := wrap_same (by unfold I64; omega)
                    have dm := dec_t hm
                    by_cases hg : 1001 < 1 + x * hi
                    · rw [cut1001_yes hg] at HS
                      have hg2 : ¬ 1 + x * hi ≤ 1001 := by omega
                      have dg := dec_f hg2
                      go_wp2_with fail
                      go_ret
                      exact ⟨ret_int HS.out, hB.out⟩
                    · rw [cut1001_no hg] at HS
                      have hg2 : 1 + x * hi ≤ 1001 := by omega
                      have dg := dec_t hg2
                      go_wp2_with fail
                      go_ret
                      exact ⟨ret_int HS.out, hB.out⟩
                  · have hT : oftenS t.kind lo hi x = 1001 := by unfold oftenS maxT; rw [if_pos ⟨H7.out, hx0⟩]; unfold cut1001; (repeat' split) <;> omega
                    rw [hT] at HS
                    clear hT
                    have hmb := mul_bounds (x := x) (T := 1001) hd0 (by omega) (by omega) (by omega)
                    have e1 : wrap64 (x * 1001) = x * 1001 := wrap_same (by unfold I64; omega)
                    have e2 : wrap64 (1 + x * 1001) = 1 + x * 1001 := wrap_same (by unfold I64; omega)
                    have dm := dec_f hm
                    rw [cut1001_yes (by omega)] at HS
                    have hg2 : ¬ 1 + x * 1001 ≤ 1001 := by omega
                    have dg := dec_f hg2
                    go_wp2_with fail
                    go_ret
                    exact ⟨ret_int HS.out, hB.out⟩
                · have d2 := dec_f h2
                  have hT : oftenS t.kind lo hi x = 1 := by unfold oftenS maxT; rw [if_pos ⟨H7.out, hx0⟩]; unfold cut1001; (repeat' split) <;> omega
                  rw [hT, Int.mul_one, cut1001_no (by omega)] at HS
                  clear hT
                  have hg : 1 + x ≤ 1001 := by omega
                  have dg := dec_t hg
                  go_wp2_with fail
                  go_ret
                  exact ⟨ret_int HS.out, hB.out⟩
            · obtain rfl : x = 0 := by omega
              have hT : oftenS t.kind lo hi 0 = 1 := by unfold oftenS; rw [if_neg (fun q => absurd q.2 (by omega))]
              rw [hT] at HS
              clear hT
              go_wp2_with fail
              go_ret
              exact ⟨ret_int HS.out, hB.out⟩
          · have d7 := (int_ne h7).1
            have hT : oftenS t.kind lo hi x = 1 := by unfold oftenS; rw [if_neg (fun q => h7 q.1)]
            rw [hT, Int.mul_one, cut1001_no (by omega)] at HS
            clear hT h7
            have hg : 1 + x ≤ 1001 := by omega
            have dg := dec_t hg
            go_wp2_with fail
            go_ret
            exact ⟨ret_int HS.out, hB.out⟩

set_option maxRecDepth 100000 in
set_option maxHeartbeats 2000000 in
theorem treeSize (k : Nat) (t : Tr) (w : World) (h : Tr.In w k t) :
    Calls Try.prog 26 #[.agg t.cs.toArray] w fun e w' => e = .returned (.int .i64 (sizeF k 1 t)) ∧ Below w.heap.size w w' := by
  have HI := Lib.hid h
  clear h
  have hA : At (w.alloc (Obj.cells t.cs.toArray 35)) w.heap.size 35 t.cs.toArray := At.new _ _ _
  have hB : Below w.heap.size w (w.alloc (Obj.cells t.cs.toArray 35)) := (Below.refl _ _).alloc (Nat.le_refl _) _
  go_enter Try.func26, Try.ntmps26
  go_wp2_with (first | (refine wpList_load_row rfl 35 _ rfl w.heap.size rfl 35 t.cs.toArray (0, 0) _ hA Try.underlying35 rfl (by kernel_rfl) ?_) | fail)
  refine (treeSizeFrom k t 1 _ (by omega) (by omega) (HI.out.next hB)).mono ?_
  rintro e w1 ⟨rfl, hb1⟩
  have HB := Lib.hid (below_step hB hb1 rfl rfl rfl rfl)
  clear hb1 hA hB
  go_wp2_with fail
  go_ret
  exact ⟨rfl, HB.out⟩

set_option maxRecDepth 100000 in
set_option maxHeartbeats 2000000 in
theorem treeFormed (k : Nat) (t : Tr) (w : World) (h : Tr.In w k t) :
    Calls Try.prog 14 #[.agg t.cs.toArray] w fun e w' => e = .returned (.bool (isFormed k t)) ∧ Below w.heap.size w w' := by
  have HI := Lib.hid h
  clear h
  have hA : At (w.alloc (Obj.cells t.cs.toArray 35)) w.heap.size 35 t.cs.toArray := At.new _ _ _
  have hB : Below w.heap.size w (w.alloc (Obj.cells t.cs.toArray 35)) := (Below.refl _ _).alloc (Nat.le_refl _) _
  have ht := sizeF_top k t
  obtain ⟨s, hs⟩ : ∃ s : Int, sizeF k 1 t = s := ⟨_, rfl⟩
  obtain ⟨f, hf⟩ : ∃ f : Bool, formedS k t = f := ⟨_, rfl⟩
  have HR : Hid (isFormed k t = (decide (s ≤ 1000) && f)) := by unfold isFormed; rw [← ht, hs, hf]; exact rfl
  have HS := Lib.hid hs
  have HF := Lib.hid hf
  clear hs hf ht
  go_enter Try.func14, Try.ntmps14
  go_wp2_with (first | (refine wpList_load_row rfl 35 _ rfl w.heap.size rfl 35 t.cs.toArray (0, 0) _ hA Try.underlying35 rfl (by kernel_rfl) ?_) | fail)
  refine (treeSize k t _ (HI.out.next hB)).mono ?_
  rintro e w1 ⟨rfl, hb1⟩
  rw [HS.out]
  have hA := hA.step hb1 rfl
  have hB := below_step hB hb1 rfl rfl rfl rfl
  clear hb1
  by_cases h1 : s ≤ 1000
  · have d1 := dec_t h1
    go_wp2_with (first | (refine wpList_load_row_want (by rfl) 35 _ rfl w.heap.size rfl 35 t.cs.toArray (0, 0) _ hA Try.underlying35 rfl (by kernel_rfl) ?_) | fail)
    refine (treeAllFormed k t _ (HI.out.next hB)).mono ?_
    rintro e w2 ⟨rfl, hb2⟩
    rw [HF.out]
    have HB := Lib.hid (below_step hB hb2 rfl rfl rfl rfl)
    have HR2 : Hid (isFormed k t = f) := by rw [HR.out, d1, Bool.true_and]; exact rfl
    clear hb2 hA hB
    cases f
    · go_wp2_with fail
      go_ret
      exact ⟨ret_bool HR2.out.symm, HB.out⟩
    · go_wp2_with fail
      go_ret
      exact ⟨ret_bool HR2.out.symm, HB.out⟩
  · have d1 := dec_f h1
    have HR2 : Hid (isFormed k t = false) := by rw [HR.out, d1, Bool.false_and]; exact rfl
    go_wp2_with fail
    go_ret
    exact ⟨ret_bool HR2.out.symm, hB⟩

end Go.Proofs.Ytjkcbojlopdonaa
