/- What the reference's look answers. -/
import Derived.Test.YtignekgckkdgiaaProg
import Derived.Test.YtignekgckkdgiaaWords
import Derived.Test.YtignekgckkdgiaaCl
import Derived.Test.YtignekgckkdgiaaRow
import Derived.Test.YtignekgckkdgiaaTr
import Derived.Test.YtignekgckkdgiaaFormed
import Derived.Test.YtignekgckkdgiaaTable
import Derived.Test.YtignekgckkdgiaaBlank
import Derived.BigRegion
import Derived.BigQuiet
namespace Go.Proofs.Ytignekgckkdgiaa
open Go.RowKit
set_option linter.unusedVariables false

/-- Is there a span at place i (from it, or, with 'back', up to it), among the first m places? -/
def isTo (fa : Nat → Nat → Bool) (back : Bool) (i m : Nat) : Bool := (List.range m).any (fun k => bif back then fa k i else fa i k)
def lookF (fa : Nat → Nat → Bool) (n : Nat) (back neg : Bool) (i j : Nat) : Bool := if i = j then isTo fa back i n != neg else false
def lookTo (fa : Nat → Nat → Bool) (n : Nat) (back neg : Bool) (i i' j' : Nat) : Bool := if i' < i then lookF fa n back neg i' j' else false
theorem isTo_zero {fa : Nat → Nat → Bool} {back : Bool} {i : Nat} : isTo fa back i 0 = false := rfl
theorem isTo_succ8 {fa : Nat → Nat → Bool} {i k : Nat} : isTo fa false i (k + 1) = (isTo fa false i k || fa i k) := by unfold isTo; rw [List.range_succ, List.any_append]; simp
theorem isTo_succ9 {fa : Nat → Nat → Bool} {i k : Nat} : isTo fa true i (k + 1) = (isTo fa true i k || fa k i) := by unfold isTo; rw [List.range_succ, List.any_append]; simp
theorem lookTo_step {fa : Nat → Nat → Bool} {n : Nat} {back neg : Bool} {i i' j' : Nat} : (if i' = i ∧ j' = i then isTo fa back i n != neg else lookTo fa n back neg i i' j') = lookTo fa n back neg (i + 1) i' j' := by
  by_cases e : i' = i ∧ j' = i
  · obtain ⟨rfl, rfl⟩ := e
    unfold lookTo lookF
    rw [if_pos ⟨rfl, rfl⟩, if_pos (by omega), if_pos rfl]
  · rw [if_neg e]
    unfold lookTo
    by_cases c : i' < i
    · rw [if_pos c, if_pos (by omega)]
    · rw [if_neg c]
      by_cases c2 : i' = i
      · subst c2
        rw [if_pos (by omega)]
        unfold lookF
        rw [if_neg (fun q => e ⟨rfl, q.symm⟩)]
      · rw [if_neg (by omega)]

set_option maxRecDepth 100000 in
set_option maxHeartbeats 4000000 in
theorem refLook8 (n ga : Nat) (fa : Nat → Nat → Bool) (t : Tr) (hn : n ≤ 1000) (hk : t.kind = 8) (w : World) (ha : TIn w ga n fa) :
    Calls Try.prog 39 #[.agg t.cs.toArray, .slice (some ⟨ga, 0, none⟩) n n] w (Tabled w n (lookF fa n false t.neg)) := by
  obtain ⟨ra, ha⟩ := ha
  have HA := Lib.hid ha
  clear ha
  have hA0 : At (w.alloc (Obj.cells t.cs.toArray 27)) w.heap.size 27 t.cs.toArray := At.new _ _ _
  have hB0 : Below w.heap.size w (w.alloc (Obj.cells t.cs.toArray 27)) := (Below.refl _ _).alloc (Nat.le_refl _) _
  have HK := Lib.hid hk
  clear hk
  go_enter Try.func39, Try.ntmps39
  go_wp2_with fail
  refine (refBlank n hn _).mono ?_
  rintro e w1 ⟨rfl, ht1, hb1⟩
  have HAt := Lib.hid (hA0.step hb1 rfl)
  have HB1 := Lib.hid (below_step hB0 hb1 rfl rfl rfl rfl)
  obtain ⟨g, hg⟩ : ∃ g, g = (w.alloc (Obj.cells t.cs.toArray 27)).heap.size := ⟨_, rfl⟩
  obtain ⟨r, hr⟩ : ∃ r : Nat → Nat, r = (fun i => (w.alloc (Obj.cells t.cs.toArray 27)).heap.size + 1 + i) := ⟨_, rfl⟩
  rw [← hr] at ht1
  clear hr
  have hgw : w.heap.size + 1 = g := by rw [hg]; simp
  have hT1 : Hid (TabAt w1 41 4 (w.heap.size + 1) g n r (lookTo fa n false t.neg 0)) := by
    have h2 := ht1.congr (f' := lookTo fa n false t.neg 0) (fun i j _ _ => by unfold lookTo; rw [if_neg (Nat.not_lt_zero _)])
    rw [← hg] at h2
    rw [hgw]; exact h2
  clear ht1 hb1 hA0 hB0
  have HGW := Lib.hid hgw
  try rw [← hg]
  try rw [hgw]
  clear hg hgw
  go_wp2_with fail
  go_loopw [14] (fun x wr => ∃ i : Nat, i ≤ n ∧ x = .int .i64 i ∧ Hid (TabAt wr 41 4 (w.heap.size + 1) g n r (lookTo fa n false t.neg i)) ∧ Hid (At wr w.heap.size 27 t.cs.toArray) ∧ Hid (Below w.heap.size w wr)) (fun x _ => n - (intOf x).toNat)
  case atStart => exact ⟨0, Nat.zero_le _, rfl, hT1, HAt, HB1⟩
  case round =>
    clear hT1 HAt HB1
    obtain ⟨i, hi, rfl, hT, hAt, hB⟩ := hrel
    by_cases hlt : i < n
    · have hd1 : decide ((i : Int) < (n : Int)) = true := dec_t (by omega)
      have hd2 : (i : Int) < (n : Int) := by omega
      have hi0 : (0 : Int) ≤ (i : Int) := by omega
      go_wp2_with fail
      have hA := HA.out.next hB.out
      obtain ⟨c0, c5, c6, c7, c8⟩ := At.tr_cell hAt.out
      rw [HK.out] at c0
      clear c5 c6 c7
      go_loop [7, 19] (fun is x => ∃ k : Nat, k ≤ n ∧ x = .int .i64 k ∧ is = .bool (isTo fa false i k)) (fun _ x => n - (intOf x).toNat)
      case atStart => exact ⟨0, Nat.zero_le _, rfl, by rw [isTo_zero]⟩
      case round =>
        obtain ⟨k, hk, rfl, rfl⟩ := hrel
        obtain ⟨y, hy⟩ : ∃ y : Bool, isTo fa false i k = y := ⟨_, rfl⟩
        rw [hy]
        have HY := Lib.hid hy
        clear hy
        by_cases hltk : k < n
        · have q1 := hA.cellTop hlt
          have q2 := hA.cellRow hlt hltk
          obtain ⟨z, hz⟩ : ∃ z : Bool, fa i k = z := ⟨_, rfl⟩
          rw [hz] at q2
          have HZ := Lib.hid hz
          clear hz
          have hk0 : (0 : Int) ≤ (k : Int) := by omega
          have hkn : (k : Int) < (n : Int) := by omega
          cases y
          · cases z
            · go_wp2_with fail
              exact ⟨⟨k + 1, by omega, by go_num, by rw [isTo_succ8, HY.out, HZ.out]; rfl⟩, by simp [intOf]; omega⟩
            · go_wp2_with fail
              exact ⟨⟨k + 1, by omega, by go_num, by rw [isTo_succ8, HY.out, HZ.out]; rfl⟩, by simp [intOf]; omega⟩
          · go_wp2_with fail
            exact ⟨⟨k + 1, by omega, by go_num, by rw [isTo_succ8, HY.out]; rfl⟩, by simp [intOf]; omega⟩
        · obtain rfl : k = n := by omega
          have q5 := hT.out.cellTop hlt
          have q6 := hT.out.cellRow hlt hlt
          have q7 := hT.out.freeRow hlt i
          obtain ⟨old, hold⟩ : ∃ v : Bool, lookTo fa k false t.neg i i i = v := ⟨_, rfl⟩
          rw [hold] at q6
          clear hold c0
          obtain ⟨ng, hng⟩ : ∃ ng : Bool, t.neg = ng := ⟨_, rfl⟩
          rw [hng] at c8
          have HN := Lib.hid hng
          clear hng hA
          go_wp2_with fail
          go_region
          go_wp2_with fail
          go_roundw
          case rel => exact ⟨i + 1, by omega, by go_num, Lib.hid (TabAt.drew ((hT.out.put i hlt (y != ng)).congr (fun i' j' _ _ => by rw [← lookTo_step, HY.out, HN.out]))), Lib.hid (At.drew (hAt.out.other (by have := (hT.out.rlow i hlt).1; dsimp only; omega) _)), Lib.hid (Below.drew (hB.out.setCell (by have := (hT.out.rlow i hlt).1; dsimp only; omega) _))⟩
          case measure => simp [intOf]; omega
    · obtain rfl : i = n := by omega
      go_wp2_with fail
      go_ret
      exact ⟨g, r, rfl, (hT.out.lower (by omega)).congr (fun i' j' h _ => by unfold lookTo; rw [if_pos h]), hB.out⟩

set_option maxRecDepth 100000 in
set_option maxHeartbeats 4000000 in
theorem refLook9 (n ga : Nat) (fa : Nat → Nat → Bool) (t : Tr) (hn : n ≤ 1000) (hk : t.kind = 9) (w : World) (ha : TIn w ga n fa) :
    Calls Try.prog 39 #[.agg t.cs.toArray, .slice (some ⟨ga, 0, none⟩) n n] w (Tabled w n (lookF fa n true t.neg)) := by
  obtain ⟨ra, ha⟩ := ha
  have HA := Lib.hid ha
  clear ha
  have hA0 : At (w.alloc (Obj.cells t.cs.toArray 27)) w.heap.size 27 t.cs.toArray := At.new _ _ _
  have hB0 : Below w.heap.size w (w.alloc (Obj.cells t.cs.toArray 27)) := (Below.refl _ _).alloc (Nat.le_refl _) _
  have HK := Lib.hid hk
  clear hk
  go_enter Try.func39, Try.ntmps39
  go_wp2_with fail
  refine (refBlank n hn _).mono ?_
  rintro e w1 ⟨rfl, ht1, hb1⟩
  have HAt := Lib.hid (hA0.step hb1 rfl)
  have HB1 := Lib.hid (below_step hB0 hb1 rfl rfl rfl rfl)
  obtain ⟨g, hg⟩ : ∃ g, g = (w.alloc (Obj.cells t.cs.toArray 27)).heap.size := ⟨_, rfl⟩
  obtain ⟨r, hr⟩ : ∃ r : Nat → Nat, r = (fun i => (w.alloc (Obj.cells t.cs.toArray 27)).heap.size + 1 + i) := ⟨_, rfl⟩
  rw [← hr] at ht1
  clear hr
  have hgw : w.heap.size + 1 = g := by rw [hg]; simp
  have hT1 : Hid (TabAt w1 41 4 (w.heap.size + 1) g n r (lookTo fa n true t.neg 0)) := by
    have h2 := ht1.congr (f' := lookTo fa n true t.neg 0) (fun i j _ _ => by unfold lookTo; rw [if_neg (Nat.not_lt_zero _)])
    rw [← hg] at h2
    rw [hgw]; exact h2
  clear ht1 hb1 hA0 hB0
  have HGW := Lib.hid hgw
  try rw [← hg]
  try rw [hgw]
  clear hg hgw
  go_wp2_with fail
  go_loopw [14] (fun x wr => ∃ i : Nat, i ≤ n ∧ x = .int .i64 i ∧ Hid (TabAt wr 41 4 (w.heap.size + 1) g n r (lookTo fa n true t.neg i)) ∧ Hid (At wr w.heap.size 27 t.cs.toArray) ∧ Hid (Below w.heap.size w wr)) (fun x _ => n - (intOf x).toNat)
  case atStart => exact ⟨0, Nat.zero_le _, rfl, hT1, HAt, HB1⟩
  case round =>
    clear hT1 HAt HB1
    obtain ⟨i, hi, rfl, hT, hAt, hB⟩ := hrel
    by_cases hlt : i < n
    · have hd1 : decide ((i : Int) < (n : Int)) = true := dec_t (by omega)
      have hd2 : (i : Int) < (n : Int) := by omega
      have hi0 : (0 : Int) ≤ (i : Int) := by omega
      go_wp2_with fail
      have hA := HA.out.next hB.out
      obtain ⟨c0, c5, c6, c7, c8⟩ := At.tr_cell hAt.out
      rw [HK.out] at c0
      clear c5 c6 c7
      go_loop [7, 19] (fun is x => ∃ k : Nat, k ≤ n ∧ x = .int .i64 k ∧ is = .bool (isTo fa true i k)) (fun _ x => n - (intOf x).toNat)
      case atStart => exact ⟨0, Nat.zero_le _, rfl, by rw [isTo_zero]⟩
      case round =>
        obtain ⟨k, hk, rfl, rfl⟩ := hrel
        obtain ⟨y, hy⟩ : ∃ y : Bool, isTo fa true i k = y := ⟨_, rfl⟩
        rw [hy]
        have HY := Lib.hid hy
        clear hy
        by_cases hltk : k < n
        · have q1 := hA.cellTop hltk
          have q2 := hA.cellRow hltk hlt
          obtain ⟨z, hz⟩ : ∃ z : Bool, fa k i = z := ⟨_, rfl⟩
          rw [hz] at q2
          have HZ := Lib.hid hz
          clear hz
          have hk0 : (0 : Int) ≤ (k : Int) := by omega
          have hkn : (k : Int) < (n : Int) := by omega
          cases y
          · cases z
            · go_wp2_with fail
              exact ⟨⟨k + 1, by omega, by go_num, by rw [isTo_succ9, HY.out, HZ.out]; rfl⟩, by simp [intOf]; omega⟩
            · go_wp2_with fail
              exact ⟨⟨k + 1, by omega, by go_num, by rw [isTo_succ9, HY.out, HZ.out]; rfl⟩, by simp [intOf]; omega⟩
          · go_wp2_with fail
            exact ⟨⟨k + 1, by omega, by go_num, by rw [isTo_succ9, HY.out]; rfl⟩, by simp [intOf]; omega⟩
        · obtain rfl : k = n := by omega
          have q5 := hT.out.cellTop hlt
          have q6 := hT.out.cellRow hlt hlt
          have q7 := hT.out.freeRow hlt i
          obtain ⟨old, hold⟩ : ∃ v : Bool, lookTo fa k true t.neg i i i = v := ⟨_, rfl⟩
          rw [hold] at q6
          clear hold c0
          obtain ⟨ng, hng⟩ : ∃ ng : Bool, t.neg = ng := ⟨_, rfl⟩
          rw [hng] at c8
          have HN := Lib.hid hng
          clear hng hA
          go_wp2_with fail
          go_region
          go_wp2_with fail
          go_roundw
          case rel => exact ⟨i + 1, by omega, by go_num, Lib.hid (TabAt.drew ((hT.out.put i hlt (y != ng)).congr (fun i' j' _ _ => by rw [← lookTo_step, HY.out, HN.out]))), Lib.hid (At.drew (hAt.out.other (by have := (hT.out.rlow i hlt).1; dsimp only; omega) _)), Lib.hid (Below.drew (hB.out.setCell (by have := (hT.out.rlow i hlt).1; dsimp only; omega) _))⟩
          case measure => simp [intOf]; omega
    · obtain rfl : i = n := by omega
      go_wp2_with fail
      go_ret
      exact ⟨g, r, rfl, (hT.out.lower (by omega)).congr (fun i' j' h _ => by unfold lookTo; rw [if_pos h]), hB.out⟩

end Go.Proofs.Ytignekgckkdgiaa
