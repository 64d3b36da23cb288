/- How many nodes a pattern has, as the laws count them. -/
import Derived.Test.YtjkcbojlopdonaaProg
import Derived.Test.YtjkcbojlopdonaaWords
import Derived.Test.YtjkcbojlopdonaaMaa
import Derived.Test.YtjkcbojlopdonaaMae
import Derived.Test.YtjkcbojlopdonaaTr
import Derived.Test.YtjkcbojlopdonaaMac
import Derived.Test.YtjkcbojlopdonaaMab
namespace Go.Proofs.Ytjkcbojlopdonaa
open Go.RowKit

def cfold : List Int → Int → Int
  | [], n => n
  | x :: r, n => if 2000 < n + x then n + x else cfold r (n + x)
def nodesS : Nat → Int → Tr → Int
  | 0, _, _ => 0
  | k + 1, m, t => if m < 1 then 5000 else cfold (t.parts.map (nodesS k (m - 1))) 1
theorem cfold_bounds (B : Int) (hB : 0 ≤ B) : ∀ (l : List Int) (n : Int), (∀ x ∈ l, 0 ≤ x ∧ x ≤ B) → 0 ≤ n → n ≤ 2000 → n ≤ cfold l n ∧ cfold l n ≤ 2000 + B
  | [], n, _, h0, h1 => ⟨Int.le_refl _, by show n ≤ _; omega⟩
  | x :: r, n, h, h0, h1 => by
    have hx := h x (by simp)
    rw [show cfold (x :: r) n = if 2000 < n + x then n + x else cfold r (n + x) from rfl]
    split
    · omega
    · have := cfold_bounds B hB r (n + x) (fun y hy => h y (List.mem_cons_of_mem _ hy)) (by omega) (by omega)
      omega
theorem nodesS_bounds : ∀ (k : Nat) (m : Int) (t : Tr), 0 ≤ m → 0 ≤ nodesS k m t ∧ nodesS k m t ≤ 5000 + 2000 * m
  | 0, m, _, h => by show (0 : Int) ≤ 0 ∧ (0 : Int) ≤ _; omega
  | k + 1, m, t, h => by
    rw [show nodesS (k + 1) m t = if m < 1 then 5000 else cfold (t.parts.map (nodesS k (m - 1))) 1 from rfl]
    split
    · omega
    · have := cfold_bounds (5000 + 2000 * (m - 1)) (by omega) (t.parts.map (nodesS k (m - 1))) 1 (by
        intro x hx
        rw [List.mem_map] at hx
        obtain ⟨p, _, rfl⟩ := hx
        exact nodesS_bounds k (m - 1) p (by omega)) (by omega) (by omega)
      omega
theorem cfold_at {k : Nat} {m n : Int} {t : Tr} {j : Nat} (h : j < t.parts.length) : cfold ((t.parts.drop j).map (nodesS k m)) n = if 2000 < n + nodesS k m t.parts[j] then n + nodesS k m t.parts[j] else cfold ((t.parts.drop (j + 1)).map (nodesS k m)) (n + nodesS k m t.parts[j]) := by
  rw [List.drop_eq_getElem_cons h, List.map_cons]; rfl
theorem nodesS_deep {k : Nat} {m : Int} {t : Tr} (h : m < 1) : nodesS (k + 1) m t = 5000 := by show (if _ then _ else _) = _; rw [if_pos h]
theorem nodesS_is {k : Nat} {m : Int} {t : Tr} (h : ¬ m < 1) : cfold ((t.parts.drop 0).map (nodesS k (m - 1))) 1 = nodesS (k + 1) m t := by
  rw [List.drop_zero]; show _ = (if _ then _ else _); rw [if_neg h]

set_option maxRecDepth 100000 in
set_option maxHeartbeats 2000000 in
theorem lawCount : ∀ (k : Nat) (m : Int) (t : Tr) (w : World), 0 ≤ m → m ≤ 1000 → Tr.In w k t →
    Calls Try.prog 25 #[.agg t.cs.toArray, .int .i64 m] w fun e w' => e = .returned (.int .i64 (nodesS k m t)) ∧ Below w.heap.size w w'
  | 0, _, _, _, _, _, h => h.elim
  | k + 1, m, t, w, h0, h1, h => by
    have hlen : t.parts.length ≤ 9223372036854775807 := by have := h.2.1; omega
    have hn := h.2.1.1
    have HI := Lib.hid h
    have HC := Lib.hid (At.tr_cell (At.new w 35 t.cs.toArray))
    clear h
    have hcell := HC.out.2.1
    go_enter Try.func25, Try.ntmps25
    by_cases hm : m < 1
    · have hS := Lib.hid (nodesS_deep (k := k) (t := t) hm)
      go_wp2_with fail
      go_ret
      exact ⟨ret_int hS.out.symm, (Below.refl _ _).alloc (Nat.le_refl _) _⟩
    · have HM := Lib.hid (nodesS_is (k := k) (t := t) hm)
      have hm1 : 1 ≤ m := by omega
      go_wp2_with fail
      go_loopw [5, 12] (fun x i wr => ∃ (j : Nat) (n : Int), j ≤ t.parts.length ∧ i = .int .i64 j ∧ x = .int .i64 n ∧ (1 ≤ n ∧ n ≤ 2000) ∧ Hid (cfold ((t.parts.drop j).map (nodesS k (m - 1))) n = nodesS (k + 1) m t) ∧ Hid (At wr w.heap.size 35 t.cs.toArray) ∧ Hid (Below w.heap.size w wr)) (fun _ i _ => t.parts.length - (intOf i).toNat)
      case atStart => exact ⟨0, 1, Nat.zero_le _, rfl, rfl, by omega, HM, Lib.hid (At.new _ _ _), Lib.hid ((Below.refl _ _).alloc (Nat.le_refl _) _)⟩
      case round =>
        obtain ⟨j, n, hj, rfl, rfl, ⟨hn1, hn2⟩, hF, hA, hB⟩ := hrel
        clear hcell
        by_cases hlt : j < t.parts.length
        · have hcell := (At.tr_cell hA.out).2.1
          obtain ⟨b, off, ha, hb, hr⟩ := HI.out.2.2.1 (by rw [hn]; omega)
          have HR := Lib.hid (range_below (hr j hlt) hb (Nat.le_refl _) hB.out)
          have HP := Lib.hid (Tr.In.next (HI.out.2.2.2 j hlt) hB.out)
          have hf := hF.out
          rw [cfold_at hlt] at hf
          obtain ⟨he0, he1⟩ := nodesS_bounds k (m - 1) t.parts[j] (by omega)
          obtain ⟨y, hy⟩ : ∃ y : Int, nodesS k (m - 1) t.parts[j] = y := ⟨_, rfl⟩
          rw [hy] at he0 he1 hf
          have HY := Lib.hid hy
          have HG := Lib.hid hf
          clear hy hr hb hf
          rw [ha] at hcell
          clear ha
          have hjz : (0 : Int) ≤ (j : Int) := by omega
          have hjn : (j : Int) < (t.parts.length : Int) := by omega
          go_wp2_with (refine wpList_load_mid rfl 35 _ rfl b (off + j * 9) rfl t.parts[j].cs _ HR.out Try.underlying35 rfl (by rw [Tr.cs_length]; kernel_rfl) ?_)
          refine (lawCount k (m - 1) t.parts[j] _ (by omega) (by omega) HP.out).mono ?_
          rintro e w3 ⟨rfl, hb3⟩
          rw [HY.out]
          have HA := Lib.hid (hA.out.step hb3 rfl)
          have HB := Lib.hid (below_step hB.out hb3 rfl rfl rfl rfl)
          clear hb3 hcell
          by_cases hg : 2000 < n + y
          · have hd := dec_t hg
            have HG2 : Hid (n + y = nodesS (k + 1) m t) := by have h := HG.out; rw [if_pos hg] at h; exact h
            go_wp2_with fail
            go_ret
            exact ⟨ret_int HG2.out, HB.out⟩
          · have hd := dec_f hg
            have HG2 : Hid (cfold ((t.parts.drop (j + 1)).map (nodesS k (m - 1))) (n + y) = nodesS (k + 1) m t) := by have h := HG.out; rw [if_neg hg] at h; exact h
            go_wp2_with fail
            exact ⟨⟨j + 1, n + y, by omega, by go_num, rfl, by omega, HG2, HA, HB⟩, by simp [intOf]; omega⟩
        · obtain rfl : j = t.parts.length := by omega
          have hf := hF.out
          rw [List.drop_length] at hf
          have HG : Hid (n = nodesS (k + 1) m t) := hf
          clear hf
          go_wp2_with fail
          go_ret
          exact ⟨ret_int HG.out, hB.out⟩

theorem lawFew (k : Nat) (m : Int) (t : Tr) (w : World) (h0 : 0 ≤ m) (h1 : m ≤ 1000) (h : Tr.In w k t) :
    Calls Try.prog 13 #[.agg t.cs.toArray, .int .i64 m] w fun e w' => e = .returned (.bool (decide (nodesS k m t ≤ 2000))) ∧ Below w.heap.size w w' := by
  have HI := Lib.hid h
  clear h
  go_enter Try.func13, Try.ntmps13
  go_wp2_with (first | (refine wpList_load_row rfl 35 _ rfl w.heap.size rfl 35 t.cs.toArray (0, 0) _ (At.new w 35 t.cs.toArray) Try.underlying35 rfl (by kernel_rfl) ?_) | fail)
  have hB : Below w.heap.size w (w.alloc (Obj.cells t.cs.toArray 35)) := (Below.refl _ _).alloc (Nat.le_refl _) _
  refine (lawCount k m t _ h0 h1 (HI.out.next hB)).mono ?_
  rintro e w1 ⟨rfl, hb1⟩
  go_wp2_with fail
  go_ret
  exact ⟨rfl, below_step hB hb1 rfl rfl rfl rfl⟩

end Go.Proofs.Ytjkcbojlopdonaa
