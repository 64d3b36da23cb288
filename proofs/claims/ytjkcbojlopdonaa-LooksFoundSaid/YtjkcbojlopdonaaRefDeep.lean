/- What the reference's Deep answers. -/
import Derived.Test.YtjkcbojlopdonaaProg
import Derived.Test.YtjkcbojlopdonaaWords
import Derived.Test.YtjkcbojlopdonaaMaa
import Derived.Test.YtjkcbojlopdonaaTr
namespace Go.Proofs.Ytjkcbojlopdonaa
open Go.RowKit

set_option maxRecDepth 100000 in
set_option maxHeartbeats 2000000 in
theorem refDeep : ∀ (k : Nat) (m : Int) (t : Tr) (w : World), 0 ≤ m → m ≤ 1000 → Tr.In w k t →
    Calls Try.prog 16 #[.agg t.cs.toArray, .int .i64 m] w fun e w' => e = .returned (.int .i64 (deepS k m t)) ∧ Below w.heap.size w w'
  | 0, _, _, _, _, _, h => h.elim
  | k + 1, m, t, w, h0, h1, h => by
    have hlen : t.parts.length ≤ 9223372036854775807 := by have := h.2.1; omega
    have hn := h.2.1.1
    have HI := Lib.hid h
    have HC := Lib.hid (At.tr_cell (At.new w 35 t.cs.toArray))
    clear h
    have hcell := HC.out.2.1
    go_enter Try.func16, Try.ntmps16
    by_cases hm : m < 1
    · have hS : Hid (deepS (k + 1) m t = 1) := by show (if m < 1 then 1 else 1 + maxl _) = _; rw [if_pos hm]
      go_wp2_with fail
      go_ret
      exact ⟨by rw [hS.out]; rfl, (Below.refl _ _).alloc (Nat.le_refl _) _⟩
    · have HM := Lib.hid hm
      go_wp2_with fail
      go_loopw [5, 13] (fun x i wr => ∃ j : Nat, j ≤ t.parts.length ∧ i = .int .i64 j ∧ x = .int .i64 (deepTo k (m - 1) t j) ∧ Hid (At wr w.heap.size 35 t.cs.toArray) ∧ Hid (Below w.heap.size w wr)) (fun _ i _ => t.parts.length - (intOf i).toNat)
      case atStart => exact ⟨0, Nat.zero_le _, rfl, by rw [deepTo_zero], Lib.hid (At.new _ _ _), Lib.hid ((Below.refl _ _).alloc (Nat.le_refl _) _)⟩
      case round =>
        obtain ⟨j, hj, rfl, rfl, hA, hB⟩ := hrel
        clear hcell
        have hcell := (At.tr_cell hA.out).2.1
        have hd0 := deepTo_ge k (m - 1) t j
        have hd1 := deepTo_le k (m - 1) t j (by omega)
        by_cases hlt : j < t.parts.length
        · obtain ⟨b, off, ha, hb, hr⟩ := HI.out.2.2.1 (by rw [hn]; omega)
          have HR := Lib.hid (range_below (hr j hlt) hb (Nat.le_refl _) hB.out)
          have HP := Lib.hid (Tr.In.next (HI.out.2.2.2 j hlt) hB.out)
          have HD := Lib.hid (deepTo_succ k (m - 1) t j hlt)
          have he0 := deepS_ge k (m - 1) t.parts[j]
          have he1 := deepS_le k (m - 1) t.parts[j] (by omega)
          obtain ⟨x, hx⟩ : ∃ x : Int, deepTo k (m - 1) t j = x := ⟨_, rfl⟩
          obtain ⟨y, hy⟩ : ∃ y : Int, deepS k (m - 1) t.parts[j] = y := ⟨_, rfl⟩
          rw [hx] at hd0 hd1 HD ⊢
          rw [hy] at he0 he1 HD
          have HY := Lib.hid hy
          clear hx hy hr hb
          rw [ha] at hcell
          clear ha
          have hjz : (0 : Int) ≤ (j : Int) := by omega
          have hjn : (j : Int) < (t.parts.length : Int) := by omega
          go_wp2_with (refine wpList_load_mid rfl 35 _ rfl b (off + j * 9) rfl t.parts[j].cs _ HR.out Try.underlying35 rfl (by rw [Tr.cs_length]; kernel_rfl) ?_)
          refine (refDeep k (m - 1) t.parts[j] _ (by omega) (by omega) HP.out).mono ?_
          rintro e w3 ⟨rfl, hb3⟩
          rw [HY.out]
          have HA := Lib.hid (hA.out.step hb3 rfl)
          have HB := Lib.hid (below_step hB.out hb3 rfl rfl rfl rfl)
          clear hb3 hcell
          by_cases hg : x < y
          · have hd : decide (x < y) = true := by rw [decide_eq_true_iff]; exact hg
            go_wp2_with fail
            exact ⟨⟨j + 1, by omega, by go_num, by rw [HD.out, Int.max_eq_right (by omega)], HA, HB⟩, by simp [intOf]; omega⟩
          · have hd : decide (x < y) = false := by rw [decide_eq_false_iff_not]; exact hg
            have hg' : y ≤ x := by omega
            go_wp2_with fail
            exact ⟨⟨j + 1, by omega, by go_num, by rw [HD.out, Int.max_eq_left hg'], HA, HB⟩, by simp [intOf]; omega⟩
        · obtain rfl : j = t.parts.length := by omega
          have hS := deepTo_all k m t (by have := HM.out; omega)
          go_wp2_with fail
          go_ret
          exact ⟨rfl, hB.out⟩

end Go.Proofs.Ytjkcbojlopdonaa
