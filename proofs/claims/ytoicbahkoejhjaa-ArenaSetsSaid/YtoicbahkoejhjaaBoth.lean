/- What the reference's Both answers. -/
import Derived.Test.YtoicbahkoejhjaaProg
import Derived.Test.YtoicbahkoejhjaaWords
import Derived.Test.YtoicbahkoejhjaaCl
import Derived.Test.YtoicbahkoejhjaaRow
import Derived.Test.YtoicbahkoejhjaaFormed
import Derived.Test.YtoicbahkoejhjaaTable
import Derived.Test.YtoicbahkoejhjaaBlank
import Derived.BigRegion
import Derived.BigQuiet
namespace Go.Proofs.Ytoicbahkoejhjaa
open Go.RowKit
set_option linter.unusedVariables false

set_option maxRecDepth 100000 in
set_option maxHeartbeats 4000000 in
theorem refBoth (n ga gb : Nat) (fa fb : Nat → Nat → Bool) (hn : n ≤ 1000) (w : World) (ha : TIn w ga n fa) (hb : TIn w gb n fb) :
    Calls Try.prog 33 #[.slice (some ⟨ga, 0, none⟩) n n, .slice (some ⟨gb, 0, none⟩) n n] w (Tabled w n (fun i j => fa i j && fb i j)) := by
  obtain ⟨ra, ha⟩ := ha
  obtain ⟨rb, hb⟩ := hb
  have HA := Lib.hid ha
  have HB := Lib.hid hb
  clear ha hb
  go_enter Try.func33, Try.ntmps33
  go_wp2_with fail
  refine (refBlank n hn _).mono ?_
  rintro e w1 ⟨rfl, ht1, hb1⟩
  obtain ⟨g, hg⟩ : ∃ g, g = w.heap.size := ⟨_, rfl⟩
  obtain ⟨r, hr⟩ : ∃ r : Nat → Nat, r = (fun i => w.heap.size + 1 + i) := ⟨_, rfl⟩
  rw [← hr] at ht1
  clear hr
  have hT1 : Hid (TabAt w1 50 4 w.heap.size g n r (fillTo (fun i j => fa i j && fb i j) 0 0)) := by rw [hg]; exact ht1.fillStart
  have HB1 := Lib.hid hb1
  clear ht1 hb1
  rw [← hg]
  clear hg
  go_wp2_with fail
  go_loopw [13] (fun x wr => ∃ i : Nat, i ≤ n ∧ x = .int .i64 i ∧ Hid (TabAt wr 50 4 w.heap.size g n r (fillTo (fun i j => fa i j && fb i j) i 0)) ∧ Hid (Below w.heap.size w wr)) (fun x _ => n - (intOf x).toNat)
  case atStart => exact ⟨0, Nat.zero_le _, rfl, hT1, HB1⟩
  case round =>
    obtain ⟨i, hi, rfl, hT, hB⟩ := hrel
    by_cases hlt : i < n
    · have hd1 : decide ((i : Int) < (n : Int)) = true := dec_t (by omega)
      have hd2 : (i : Int) < (n : Int) := by omega
      have hi0 : (0 : Int) ≤ (i : Int) := by omega
      go_wp2_with fail
      go_loopw [18] (fun x wr => ∃ j : Nat, j ≤ n ∧ x = .int .i64 j ∧ Hid (TabAt wr 50 4 w.heap.size g n r (fillTo (fun i j => fa i j && fb i j) i j)) ∧ Hid (Below w.heap.size w wr)) (fun x _ => n - (intOf x).toNat)
      case atStart => exact ⟨0, Nat.zero_le _, rfl, hT, hB⟩
      case round =>
        clear hT hB
        obtain ⟨j, hj, rfl, hT, hB⟩ := hrel
        by_cases hltj : j < n
        · have hA := (HA.out.next hB.out)
          have hBb := (HB.out.next hB.out)
          have q1 := hA.cellTop hlt
          have q2 := hA.cellRow hlt hltj
          have q3 := hBb.cellTop hlt
          have q4 := hBb.cellRow hlt hltj
          have q5 := hT.out.cellTop hlt
          have q6 := hT.out.cellRow hlt hltj
          have q7 := hT.out.freeRow hlt j
          obtain ⟨old, hold⟩ : ∃ v : Bool, fillTo (fun i j => fa i j && fb i j) i j i j = v := ⟨_, rfl⟩
          simp only [hold] at q6
          clear hold
          have hj0 : (0 : Int) ≤ (j : Int) := by omega
          have hjn : (j : Int) < (n : Int) := by omega
          clear hA hBb
          obtain ⟨x, hx⟩ : ∃ x : Bool, fa i j = x := ⟨_, rfl⟩
          obtain ⟨y, hy⟩ : ∃ y : Bool, fb i j = y := ⟨_, rfl⟩
          rw [hx] at q2
          rw [hy] at q4
          have HX := Lib.hid hx
          have HY := Lib.hid hy
          clear hx hy
          cases x
          · go_wp2_with fail
            go_region
            go_wp2_with fail
            go_roundw
            case rel => exact ⟨j + 1, by omega, by go_num, Lib.hid (TabAt.drew (hT.out.fillStep hlt (by rw [HX.out, HY.out]; rfl))), Lib.hid (Below.drew (hB.out.setCell (by have := (hT.out.rlow i hlt).1; exact this) _))⟩
            case measure => simp [intOf]; omega
          · go_wp2_with fail
            go_region
            go_wp2_with fail
            go_roundw
            case rel => exact ⟨j + 1, by omega, by go_num, Lib.hid (TabAt.drew (hT.out.fillStep hlt (by rw [HX.out, HY.out]; rfl))), Lib.hid (Below.drew (hB.out.setCell (by have := (hT.out.rlow i hlt).1; exact this) _))⟩
            case measure => simp [intOf]; omega
        · obtain rfl : j = n := by omega
          go_wp2_with fail
          go_roundw
          case rel => exact ⟨i + 1, by omega, by go_num, Lib.hid hT.out.fillRow, hB⟩
          case measure => simp [intOf]; omega
    · obtain rfl : i = n := by omega
      go_wp2_with fail
      go_ret
      exact ⟨g, r, rfl, hT.out.fillEnd, hB.out⟩

end Go.Proofs.Ytoicbahkoejhjaa
