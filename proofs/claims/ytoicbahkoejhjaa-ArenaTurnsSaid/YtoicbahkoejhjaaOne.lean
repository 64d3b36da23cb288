/- What the reference's One and Other answer. -/
import Derived.Test.YtoicbahkoejhjaaProg
import Derived.Test.YtoicbahkoejhjaaWords
import Derived.Test.YtoicbahkoejhjaaCl
import Derived.Test.YtoicbahkoejhjaaRow
import Derived.Test.YtoicbahkoejhjaaFormed
import Derived.Test.YtoicbahkoejhjaaTable
import Derived.Test.YtoicbahkoejhjaaBlank
import Derived.BigRegion
import Derived.BigQuiet
namespace Go.Proofs.Ytoicbahkoejhjaa
open Go.RowKit
set_option linter.unusedVariables false

set_option maxRecDepth 100000 in
set_option maxHeartbeats 2000000 in
theorem refOne (n : Nat) (hn : n ≤ 1000) (w : World) :
    Calls Try.prog 29 #[.int .i64 n] w (Tabled w n (fun i j => decide (i = j))) := by
  go_enter Try.func29, Try.ntmps29
  go_wp2_with fail
  refine (refBlank n hn _).mono ?_
  rintro e w1 ⟨rfl, ht1, hb1⟩
  obtain ⟨g, hg⟩ : ∃ g, g = w.heap.size := ⟨_, rfl⟩
  obtain ⟨r, hr⟩ : ∃ r : Nat → Nat, r = (fun i => w.heap.size + 1 + i) := ⟨_, rfl⟩
  rw [← hr] at ht1
  clear hr
  have hT1 : Hid (TabAt w1 50 4 w.heap.size g n r (fun i' j' => decide (i' = j' ∧ i' < 0))) := by rw [hg]; exact ht1.congr (fun i j _ _ => by simp)
  have HB1 := Lib.hid hb1
  clear ht1 hb1
  rw [← hg]
  clear hg
  go_wp2_with fail
  go_loopw [9] (fun x wr => ∃ i : Nat, i ≤ n ∧ x = .int .i64 i ∧ Hid (TabAt wr 50 4 w.heap.size g n r (fun i' j' => decide (i' = j' ∧ i' < i))) ∧ Hid (Below w.heap.size w wr)) (fun x _ => n - (intOf x).toNat)
  case atStart => exact ⟨0, Nat.zero_le _, rfl, hT1, HB1⟩
  case round =>
    obtain ⟨i, hi, rfl, hT, hB⟩ := hrel
    by_cases hlt : i < n
    · have hi0 : (0 : Int) ≤ (i : Int) := by omega
      have hin : (i : Int) < (n : Int) := by omega
      have q5 := hT.out.cellTop hlt
      have q6 := hT.out.cellRow hlt hlt
      have q7 := hT.out.freeRow hlt i
      go_wp2_with fail
      refine ⟨⟨i + 1, by omega, by go_num, ?_, ?_⟩, by simp [intOf]; omega⟩
      · exact Lib.hid ((hT.out.put i hlt true).congr (fun i' j' _ _ => by
          by_cases e : i' = i ∧ j' = i
          · obtain ⟨rfl, rfl⟩ := e; simp
          · rw [if_neg e, Bool.eq_iff_iff]; simp only [decide_eq_true_eq]; omega))
      · exact Lib.hid (hB.out.setCell (by have := (hT.out.rlow i hlt).1; exact this) _)
    · obtain rfl : i = n := by omega
      go_wp2_with fail
      go_ret
      exact ⟨g, r, rfl, hT.out.congr (fun i' j' h1 _ => by rw [Bool.eq_iff_iff]; simp only [decide_eq_true_eq]; omega), hB.out⟩

/-- All spans that aren't a's. -/
def otherF (fa : Nat → Nat → Bool) (i j : Nat) : Bool := decide (i ≤ j) && !fa i j
theorem otherF_low {fa : Nat → Nat → Bool} {i j : Nat} (h : j < i) : otherF fa i j = false := by unfold otherF; rw [decide_eq_false (by omega), Bool.false_and]
theorem otherF_at {fa : Nat → Nat → Bool} {i j : Nat} (h : i ≤ j) : otherF fa i j = !fa i j := by unfold otherF; rw [decide_eq_true h, Bool.true_and]

set_option maxRecDepth 100000 in
set_option maxHeartbeats 4000000 in
theorem refOther (n ga : Nat) (fa : Nat → Nat → Bool) (hn : n ≤ 1000) (w : World) (ha : TIn w ga n fa) :
    Calls Try.prog 34 #[.slice (some ⟨ga, 0, none⟩) n n] w (Tabled w n (otherF fa)) := by
  obtain ⟨ra, ha⟩ := ha
  have HA := Lib.hid ha
  clear ha
  go_enter Try.func34, Try.ntmps34
  go_wp2_with fail
  refine (refBlank n hn _).mono ?_
  rintro e w1 ⟨rfl, ht1, hb1⟩
  obtain ⟨g, hg⟩ : ∃ g, g = w.heap.size := ⟨_, rfl⟩
  obtain ⟨r, hr⟩ : ∃ r : Nat → Nat, r = (fun i => w.heap.size + 1 + i) := ⟨_, rfl⟩
  rw [← hr] at ht1
  clear hr
  have hT1 : Hid (TabAt w1 50 4 w.heap.size g n r (fillTo (otherF fa) 0 0)) := by rw [hg]; exact ht1.fillStart
  have HB1 := Lib.hid hb1
  clear ht1 hb1
  rw [← hg]
  clear hg
  go_wp2_with fail
  go_loopw [11] (fun x wr => ∃ i : Nat, i ≤ n ∧ x = .int .i64 i ∧ Hid (TabAt wr 50 4 w.heap.size g n r (fillTo (otherF fa) i 0)) ∧ Hid (Below w.heap.size w wr)) (fun x _ => n - (intOf x).toNat)
  case atStart => exact ⟨0, Nat.zero_le _, rfl, hT1, HB1⟩
  case round =>
    obtain ⟨i, hi, rfl, hT, hB⟩ := hrel
    by_cases hlt : i < n
    · have hd1 : decide ((i : Int) < (n : Int)) = true := dec_t (by omega)
      have hd2 : (i : Int) < (n : Int) := by omega
      have hi0 : (0 : Int) ≤ (i : Int) := by omega
      go_wp2_with fail
      go_loopw [5] (fun x wr => ∃ j : Nat, i ≤ j ∧ j ≤ n ∧ x = .int .i64 j ∧ Hid (TabAt wr 50 4 w.heap.size g n r (fillTo (otherF fa) i j)) ∧ Hid (Below w.heap.size w wr)) (fun x _ => n - (intOf x).toNat)
      case atStart => exact ⟨i, Nat.le_refl _, hi, rfl, Lib.hid (hT.out.fillSkip (fun j' hj' => otherF_low hj')), hB⟩
      case round =>
        clear hT hB
        obtain ⟨j, hij, hj, rfl, hT, hB⟩ := hrel
        by_cases hltj : j < n
        · have hA := (HA.out.next hB.out)
          have q1 := hA.cellTop hlt
          have q2 := hA.cellRow hlt hltj
          have q5 := hT.out.cellTop hlt
          have q6 := hT.out.cellRow hlt hltj
          have q7 := hT.out.freeRow hlt j
          obtain ⟨old, hold⟩ : ∃ v : Bool, fillTo (otherF fa) i j i j = v := ⟨_, rfl⟩
          rw [hold] at q6
          clear hold
          have hj0 : (0 : Int) ≤ (j : Int) := by omega
          have hjn : (j : Int) < (n : Int) := by omega
          have hdj : decide ((j : Int) < (n : Int)) = true := dec_t hjn
          clear hA
          go_wp2_with fail
          go_region
          go_wp2_with fail
          go_roundw
          case rel => exact ⟨j + 1, by omega, by omega, by go_num, Lib.hid (TabAt.drew (hT.out.fillStep hlt (by rw [otherF_at hij]))), Lib.hid (Below.drew (hB.out.setCell (by have := (hT.out.rlow i hlt).1; exact this) _))⟩
          case measure => simp [intOf]; omega
        · obtain rfl : j = n := by omega
          go_wp2_with fail
          go_roundw
          case rel => exact ⟨i + 1, by omega, by go_num, Lib.hid hT.out.fillRow, hB⟩
          case measure => simp [intOf]; omega
    · obtain rfl : i = n := by omega
      go_wp2_with fail
      go_ret
      exact ⟨g, r, rfl, hT.out.fillEnd, hB.out⟩

end Go.Proofs.Ytoicbahkoejhjaa
