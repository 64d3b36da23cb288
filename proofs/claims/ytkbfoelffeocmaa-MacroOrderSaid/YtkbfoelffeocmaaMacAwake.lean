/- The law's awake. -/
import Derived.Test.YtkbfoelffeocmaaMacFew
namespace Go.Proofs.Ytkbfoelffeocmaa
open Go.RowKit
set_option linter.unusedSimpArgs false
set_option linter.unusedVariables false

def ms1 : List (ByteArray × ByteArray) := [({ data := #[65] }, aT)]
theorem ms1_at (j : Nat) (h : j < ms1.length) : atM ms1 j = ({ data := #[65] }, aT) := by
  have : j = 0 := by have h' : j < 1 := h; omega
  subst this; rfl
theorem ms1_mem {m : ByteArray × ByteArray} (h : m ∈ ms1) : m = ({ data := #[65] }, aT) := by simpa [ms1] using h
theorem ms1_hasN (b : ByteArray) : hasN (wordsS aT).1 b = false := by
  rw [words_a]
  unfold hasN
  rw [List.any_cons, List.any_nil, show decide ((setW (St.zero.put 97), 0).1.kind = 11) = false from by decide]; rfl
theorem ms1_good : Good ms1 := by
  refine ⟨by show 1 ≤ 20; decide, fun m hm => ?_, ?_, fun m hm => ?_, fun a ha => ?_⟩
  · rw [ms1_mem hm]; kernel_rfl
  · simp [ms1]
  · rw [ms1_mem hm]
    refine ⟨by rw [words_a], fun x hx hk => ?_⟩
    rw [words_a] at hx
    have : x = (setW (St.zero.put 97), 0) := by simpa using hx
    rw [this] at hk
    exact absurd hk (by decide)
  · have hn : ∀ c d, ¬ LeanN ms1 c d := fun c d h => by
      obtain ⟨⟨m, hm, _, h2⟩, _⟩ := h
      rw [ms1_mem hm, ms1_hasN] at h2
      cases h2
    cases ha with
    | one h => exact hn _ _ h
    | more _ h => exact hn _ _ h
theorem ms1_sol : Sol ms1 (fun _ => vS aT []) := fun m hm => by
  rw [ms1_mem hm]
  refine ⟨⟨by rw [read_a], by rw [read_a]; exact formed_a⟩, ?_⟩
  show vS aT [] = vS aT _
  unfold vS
  rw [read_a, read_a]
theorem ms1_short : ShortM ms1 ∧ SmallM ms1 := ⟨fun j h => by rw [ms1_at j h]; exact ⟨by decide, by decide⟩, fun j h => by rw [ms1_at j h]; decide⟩
theorem ms1_in {w : World} {g : Nat} (h : At w g 40 #[.string { data := #[65] }, .string { data := #[97] }]) (c : Nat) : MacsAt w (.slice (some ⟨g, 0, none⟩) 1 c) ms1 :=
  ⟨_, c, rfl, by show 1 ≤ _; decide, fun _ => ⟨g, 0, rfl, h.lt, fun j hj i u hu => by
    have hj' : j < 1 := hj
    obtain rfl : j = 0 := by omega
    rw [ms1_at 0 hj] at hu
    rw [Nat.zero_mul, Nat.add_zero, Nat.zero_add, h.cell]
    unfold macCs at hu
    match i, hu with
    | 0, hu => simpa [aT] using hu
    | 1, hu => simpa [aT] using hu⟩⟩

set_option maxRecDepth 100000 in
set_option maxHeartbeats 4000000 in
theorem lawAwake (w : World) : Calls Try.prog 4 #[] w fun e w' => e = .returned (.bool true) ∧ Below w.heap.size w w' := by
  obtain ⟨w1, hw1⟩ : ∃ w1, w1 = w.alloc (.cells #[.string { data := #[65] }, .string { data := #[97] }] 40) := ⟨_, rfl⟩
  have HM : Hid (MacsAt w1 (.slice (some ⟨w.heap.size, 0, none⟩) 1 1) ms1) := Lib.hid (by rw [hw1]; exact ms1_in (At.new _ _ _) 1)
  have HB1 : Hid (Below w.heap.size w w1) := Lib.hid (by rw [hw1]; exact (Below.refl _ _).alloc (Nat.le_refl _) _)
  have HW := Lib.hid hw1
  clear hw1
  go_enter Try.func4, Try.ntmps4
  go_wp2_with fail
  rw [← HW.out]
  refine (mExpand ms1 (some ⟨w.heap.size, 0, none⟩) 1 1 w1 HM.out (Nat.le_refl _) ms1_short.1 ms1_short.2).mono ?_
  rintro e w2 ⟨hb2, hpp⟩
  have HB2 := Lib.hid (HB1.out.trans (hb2.mono HB1.out.size))
  rcases hpp with ⟨h1, _⟩ | ⟨_, ⟨v, F, rfl, _, _, _, g, B, ts, rfl, _, hg, hd, _⟩ | ⟨i, p, q, rfl, _, _, hno⟩⟩
  · exact absurd ((early_good ms1).2 ms1_good) h1
  · have c0 : w2.cell? ⟨g, 0, none⟩ = some (.string { data := #[65] }) := by
      have := hd.names 0 (by decide) 0 _ rfl
      rw [ms1_at 0 (by decide)] at this
      simpa using this
    have hl1 : ms1.length = 1 := rfl
    rw [hl1]
    clear hb2 hd hg hl1
    go_wp2_with fail
    go_ret
    exact ⟨rfl, HB2.out⟩
  · exact absurd ms1_sol (hno _)

end Go.Proofs.Ytkbfoelffeocmaa
