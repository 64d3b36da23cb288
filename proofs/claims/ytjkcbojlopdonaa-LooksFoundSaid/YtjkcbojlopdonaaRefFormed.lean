/- What the reference's formed and Formed answer. -/
import Derived.Test.YtjkcbojlopdonaaProg
import Derived.Test.YtjkcbojlopdonaaRefFormedA
import Derived.Test.YtjkcbojlopdonaaRefFormedB
import Derived.Test.YtjkcbojlopdonaaRefFormedC
import Derived.Test.YtjkcbojlopdonaaRefFormedD
import Derived.Test.YtjkcbojlopdonaaRefDeep
import Derived.Test.YtjkcbojlopdonaaRefSize
namespace Go.Proofs.Ytjkcbojlopdonaa
open Go.RowKit
set_option linter.unusedSimpArgs false

set_option maxRecDepth 100000 in
set_option maxHeartbeats 2000000 in
theorem formed_out (k : Nat) (t : Tr) (w : World) (hk : t.kind < 0 ∨ 11 < t.kind) :
    Calls Try.prog 17 #[.agg t.cs.toArray] w fun e w' => e = .returned (.bool (formedS (k + 1) t)) ∧ Below w.heap.size w w' := by
  have HF := Lib.hid (formedS_own (k := k) (ownF_range hk))
  have HA0 := Lib.hid (At.new w 35 t.cs.toArray)
  obtain ⟨c0, c5, c6, c7, c8⟩ := At.tr_cell HA0.out
  have k3 := (int_ne (show ¬ t.kind = 3 by omega)).1
  have k4 := (int_ne (show ¬ t.kind = 4 by omega)).1
  have k5 := (int_ne (show ¬ t.kind = 5 by omega)).1
  have k6 := (int_ne (show ¬ t.kind = 6 by omega)).1
  have k7 := (int_ne (show ¬ t.kind = 7 by omega)).1
  have k8 := (int_ne (show ¬ t.kind = 8 by omega)).1
  have k9 := (int_ne (show ¬ t.kind = 9 by omega)).1
  rcases hk with hk | hk
  · have kl := dec_t hk
    clear hk
    go_enter Try.func17, Try.ntmps17
    go_wp2_with fail
    go_ret
    exact ⟨ret_bool HF.out.symm, (Below.refl _ _).alloc (Nat.le_refl _) _⟩
  · have kl := dec_f (show ¬ t.kind < 0 by omega)
    have kh := dec_t hk
    clear hk
    go_enter Try.func17, Try.ntmps17
    go_wp2_with fail
    go_ret
    exact ⟨ret_bool HF.out.symm, (Below.refl _ _).alloc (Nat.le_refl _) _⟩

theorem refformed : ∀ k, FormedAt k
  | 0 => fun _ _ h => h.elim
  | k + 1 => fun t w h => by
    have ih := refformed k
    by_cases h0 : t.kind < 0 ∨ 11 < t.kind
    · exact formed_out k t w h0
    by_cases h2 : t.kind = 2
    · exact formed_2 k ih t w h h2
    by_cases h3 : t.kind = 3
    · exact formed_3 k ih t w h h3
    by_cases h4 : t.kind = 4
    · exact formed_4 k ih t w h h4
    by_cases h5 : t.kind = 5
    · exact formed_5 k ih t w h h5
    by_cases h6 : t.kind = 6
    · exact formed_6 k ih t w h h6
    by_cases h7 : t.kind = 7
    · exact formed_7 k ih t w h h7
    by_cases h8 : t.kind = 8
    · exact formed_8 k ih t w h h8
    by_cases h9 : t.kind = 9
    · exact formed_9 k ih t w h h9
    exact formed_A k ih t w h (by omega)
def isFormed (k : Nat) (t : Tr) : Bool := decide (deepS k 40 t < 41) && (formedS k t && decide (sizeS k t < 1001))
set_option maxRecDepth 100000 in
set_option maxHeartbeats 2000000 in
theorem refFormed (k : Nat) (t : Tr) (w : World) (h : Tr.In w k t) :
    Calls Try.prog 7 #[.agg t.cs.toArray] w fun e w' => e = .returned (.bool (isFormed k t)) ∧ Below w.heap.size w w' := by
  have HI := Lib.hid h
  clear h
  have hA : At (w.alloc (Obj.cells t.cs.toArray 35)) w.heap.size 35 t.cs.toArray := At.new _ _ _
  have hB : Below w.heap.size w (w.alloc (Obj.cells t.cs.toArray 35)) := (Below.refl _ _).alloc (Nat.le_refl _) _
  obtain ⟨d, hd⟩ : ∃ d : Int, deepS k 40 t = d := ⟨_, rfl⟩
  obtain ⟨f, hf⟩ : ∃ f : Bool, formedS k t = f := ⟨_, rfl⟩
  obtain ⟨s, hs⟩ : ∃ s : Int, sizeS k t = s := ⟨_, rfl⟩
  have HD := Lib.hid hd
  have HF := Lib.hid hf
  have HS := Lib.hid hs
  have HR : Hid (isFormed k t = (decide (d < 41) && (f && decide (s < 1001)))) := by unfold isFormed; rw [hd, hf, hs]; exact rfl
  clear hd hf hs
  go_enter Try.func7, Try.ntmps7
  go_wp2_with (first | (refine wpList_load_row rfl 35 _ rfl w.heap.size rfl 35 t.cs.toArray (0, 0) _ hA Try.underlying35 rfl (by kernel_rfl) ?_) | fail)
  refine (refDeep k 40 t _ (by omega) (by omega) (HI.out.next hB)).mono ?_
  rintro e w1 ⟨rfl, hb1⟩
  rw [HD.out]
  have hA := hA.step hb1 rfl
  have hB := below_step hB hb1 rfl rfl rfl rfl
  clear hb1
  by_cases h1 : d < 41
  · have d1 := dec_t h1
    go_wp2_with (first | (refine wpList_load_row_want (by rfl) 35 _ rfl w.heap.size rfl 35 t.cs.toArray (0, 0) _ hA Try.underlying35 rfl (by kernel_rfl) ?_) | fail)
    refine (refformed k t _ (HI.out.next hB)).mono ?_
    rintro e w2 ⟨rfl, hb2⟩
    rw [HF.out]
    have hA := hA.step hb2 rfl
    have hB := below_step hB hb2 rfl rfl rfl rfl
    clear hb2
    cases f
    · go_wp2_with fail
      go_ret
      exact ⟨ret_bool (by rw [HR.out]; simp), hB⟩
    · go_wp2_with (first | (refine wpList_load_row_want (by rfl) 35 _ rfl w.heap.size rfl 35 t.cs.toArray (0, 0) _ hA Try.underlying35 rfl (by kernel_rfl) ?_) | fail)
      refine (refSize k t _ (HI.out.next hB)).mono ?_
      rintro e w3 ⟨rfl, hb3⟩
      rw [HS.out]
      have hB := below_step hB hb3 rfl rfl rfl rfl
      clear hb3
      go_wp2_with fail
      go_ret
      exact ⟨ret_bool (by rw [HR.out]; simp [h1]), hB⟩
  · have d1 := dec_f h1
    have HR2 : Hid (isFormed k t = false) := by rw [HR.out, d1, Bool.false_and]; exact rfl
    go_wp2_with fail
    go_ret
    exact ⟨ret_bool HR2.out.symm, hB⟩

end Go.Proofs.Ytjkcbojlopdonaa
