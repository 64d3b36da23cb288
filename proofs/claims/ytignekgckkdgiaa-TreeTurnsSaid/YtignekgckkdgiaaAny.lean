/- What the reference's Any and times answer. -/
import Derived.Test.YtignekgckkdgiaaProg
import Derived.Test.YtignekgckkdgiaaWords
import Derived.Test.YtignekgckkdgiaaCl
import Derived.Test.YtignekgckkdgiaaRow
import Derived.Test.YtignekgckkdgiaaTr
import Derived.Test.YtignekgckkdgiaaFormed
import Derived.Test.YtignekgckkdgiaaTable
import Derived.Test.YtignekgckkdgiaaBlank
import Derived.Test.YtignekgckkdgiaaOne
import Derived.Test.YtignekgckkdgiaaThen
import Derived.Test.YtignekgckkdgiaaEither
namespace Go.Proofs.Ytignekgckkdgiaa
open Go.RowKit
set_option linter.unusedVariables false

def eqF (i j : Nat) : Bool := decide (i = j)
def anyTo (fa : Nat → Nat → Bool) (n : Nat) : Nat → Nat → Nat → Bool
  | 0 => eqF
  | m + 1 => fun i j => anyTo fa n m i j || thenF (anyTo fa n m) fa n i j
def powF (fa : Nat → Nat → Bool) (n : Nat) : Nat → Nat → Nat → Bool
  | 0 => eqF
  | m + 1 => thenF (powF fa n m) fa n
/-- Some number of times from l to l + m. -/
def outF (fa : Nat → Nat → Bool) (n l : Nat) : Nat → Nat → Nat → Bool
  | 0 => powF fa n l
  | m + 1 => fun i j => outF fa n l m i j || powF fa n (l + (m + 1)) i j
def timesT (fa : Nat → Nat → Bool) (n l : Nat) (hi : Int) : Nat → Nat → Bool := if hi < 0 then thenF (powF fa n l) (anyTo fa n n) n else outF fa n l (hi.toNat - l)
theorem TabAt.tin {w : World} {E B : TypeId} {base g n : Nat} {r : Nat → Nat} {f : Nat → Nat → Bool} (h : TabAt w E B base g n r f) : TabIn w E B g n f := ⟨r, h.lower (Nat.zero_le _)⟩
/-- A table of the call's own, wherever it is by now. -/
def Own (w : World) (base g n : Nat) (f : Nat → Nat → Bool) : Prop := ∃ r, TabAt w 41 4 base g n r f
theorem Own.tin {w : World} {base g n : Nat} {f : Nat → Nat → Bool} (h : Own w base g n f) : TIn w g n f := by obtain ⟨r, h⟩ := h; exact h.tin
theorem Own.next {w w' : World} {base g n : Nat} {f : Nat → Nat → Bool} (h : Own w base g n f) (hb : Below w.heap.size w w') : Own w' base g n f := by obtain ⟨r, h⟩ := h; exact ⟨r, h.next hb⟩
theorem Own.of {w : World} {base base' g n : Nat} {r : Nat → Nat} {f : Nat → Nat → Bool} (h : TabAt w 41 4 base g n r f) (hb : base' ≤ base) : Own w base' g n f := ⟨r, h.lower hb⟩

set_option maxRecDepth 100000 in
set_option maxHeartbeats 2000000 in
theorem refAny (n ga : Nat) (fa : Nat → Nat → Bool) (hn : n ≤ 1000) (w : World) (ha : TIn w ga n fa) :
    Calls Try.prog 44 #[.slice (some ⟨ga, 0, none⟩) n n] w (Tabled w n (anyTo fa n n)) := by
  have HA := Lib.hid ha
  clear ha
  go_enter Try.func44, Try.ntmps44
  go_wp2_with fail
  refine (refOne n hn _).mono ?_
  rintro e w1 ⟨g1, r1, rfl, hT1, hb1⟩
  have HT1 : Hid (Own w1 w.heap.size g1 n (anyTo fa n 0)) := Own.of (hT1.congr (fun _ _ _ _ => rfl)) (Nat.le_refl _)
  have HB1 := Lib.hid hb1
  clear hT1 hb1
  go_wp2_with fail
  go_loopw [3, 9] (fun t x wr => ∃ (k gt : Nat), k ≤ n ∧ x = .int .i64 k ∧ t = .slice (some ⟨gt, 0, none⟩) n n ∧ Hid (Own wr w.heap.size gt n (anyTo fa n k)) ∧ Hid (Below w.heap.size w wr)) (fun _ x _ => n - (intOf x).toNat)
  case atStart => exact ⟨0, g1, Nat.zero_le _, rfl, rfl, HT1, HB1⟩
  case round =>
    obtain ⟨k, gt, hk, rfl, rfl, hT, hB⟩ := hrel
    by_cases hlt : k < n
    · have hkn : (k : Int) < (n : Int) := by omega
      go_wp2_with fail
      refine (refThen n gt ga (anyTo fa n k) fa hn _ hT.out.tin (HA.out.next hB.out)).mono ?_
      rintro e w3 ⟨g3, r3, rfl, hT3, hb3⟩
      have HT := Lib.hid (hT.out.next hb3)
      have HB := Lib.hid (hB.out.trans (hb3.mono hB.out.size))
      have HT3 := Lib.hid hT3.tin
      clear hT3 hb3
      go_wp2_with fail
      refine (refEither n gt g3 (anyTo fa n k) (thenF (anyTo fa n k) fa n) hn _ HT.out.tin HT3.out).mono ?_
      rintro e w4 ⟨g4, r4, rfl, hT4, hb4⟩
      have HB4 := Lib.hid (HB.out.trans (hb4.mono HB.out.size))
      have HT4 : Hid (Own w4 w.heap.size g4 n (anyTo fa n (k + 1))) := Own.of hT4 HB.out.size
      clear hT4 hb4
      go_wp2_with fail
      exact ⟨⟨k + 1, g4, by omega, by go_num, rfl, HT4, HB4⟩, by simp [intOf]; omega⟩
    · obtain rfl : k = n := by omega
      go_wp2_with fail
      go_ret
      obtain ⟨r, h⟩ := hT.out
      exact ⟨gt, r, rfl, h, hB.out⟩

set_option maxRecDepth 100000 in
set_option maxHeartbeats 4000000 in
theorem refTimes (n ga l : Nat) (fa : Nat → Nat → Bool) (t : Tr) (hn : n ≤ 1000) (hl : t.lo = (l : Int)) (hl20 : l ≤ 1000) (hh : t.hi ≤ 1000) (w : World) (ha : TIn w ga n fa) :
    Calls Try.prog 38 #[.agg t.cs.toArray, .slice (some ⟨ga, 0, none⟩) n n] w (Tabled w n (timesT fa n l t.hi)) := by
  have HA := Lib.hid ha
  clear ha
  have hA0 : At (w.alloc (Obj.cells t.cs.toArray 27)) w.heap.size 27 t.cs.toArray := At.new _ _ _
  have hB0 : Below w.heap.size w (w.alloc (Obj.cells t.cs.toArray 27)) := (Below.refl _ _).alloc (Nat.le_refl _) _
  obtain ⟨hi, hhi⟩ : ∃ hi : Int, t.hi = hi := ⟨_, rfl⟩
  rw [hhi] at hh ⊢
  have HL := Lib.hid hl
  have HH := Lib.hid hhi
  clear hl hhi
  go_enter Try.func38, Try.ntmps38
  go_wp2_with fail
  refine (refOne n hn _).mono ?_
  rintro e w1 ⟨g1, r1, rfl, hT1, hb1⟩
  have HAt := Lib.hid (hA0.step hb1 rfl)
  have HB1 := Lib.hid (below_step hB0 hb1 rfl rfl rfl rfl)
  have HT1 : Hid (Own w1 w.heap.size g1 n (powF fa n 0)) := Own.of (hT1.congr (fun _ _ _ _ => rfl)) (by simp)
  clear hT1 hb1 hA0 hB0
  have c2 := (At.tr_cell HAt.out).2.2.1
  rw [HL.out] at c2
  go_wp2_with fail
  clear c2
  go_loopw [5, 13] (fun tv x wr => ∃ (k gt : Nat), k ≤ l ∧ x = .int .i64 k ∧ tv = .slice (some ⟨gt, 0, none⟩) n n ∧ Hid (Own wr w.heap.size gt n (powF fa n k)) ∧ Hid (At wr w.heap.size 27 t.cs.toArray) ∧ Hid (Below w.heap.size w wr)) (fun _ x _ => l - (intOf x).toNat)
  case atStart => exact ⟨0, g1, Nat.zero_le _, rfl, rfl, HT1, HAt, HB1⟩
  case round =>
    clear HT1 HAt HB1
    obtain ⟨k, gt, hk, rfl, rfl, hT, hAt, hB⟩ := hrel
    by_cases hlt : k < l
    · have hkn : (k : Int) < (l : Int) := by omega
      go_wp2_with fail
      refine (refThen n gt ga (powF fa n k) fa hn _ hT.out.tin (HA.out.next hB.out)).mono ?_
      rintro e w3 ⟨g3, r3, rfl, hT3, hb3⟩
      have HAt := Lib.hid (hAt.out.step hb3 rfl)
      have HB := Lib.hid (hB.out.trans (hb3.mono hB.out.size))
      have HT3 : Hid (Own w3 w.heap.size g3 n (powF fa n (k + 1))) := Own.of hT3 hB.out.size
      clear hT3 hb3
      go_wp2_with fail
      exact ⟨⟨k + 1, g3, by omega, by go_num, rfl, HT3, HAt, HB⟩, by simp [intOf]; omega⟩
    · obtain rfl : k = l := by omega
      have c2 := (At.tr_cell hAt.out).2.2.1
      rw [HL.out] at c2
      have c3 := (At.tr_cell hAt.out).2.2.2.1
      rw [HH.out] at c3
      by_cases hneg : hi < 0
      · have hd := dec_t hneg
        have HF : Hid (timesT fa n k hi = thenF (powF fa n k) (anyTo fa n n) n) := by unfold timesT; rw [if_pos hneg]; exact rfl
        go_wp2_with fail
        refine (refAny n ga fa hn _ (HA.out.next hB.out)).mono ?_
        rintro e w3 ⟨g3, r3, rfl, hT3, hb3⟩
        have HB := Lib.hid (hB.out.trans (hb3.mono hB.out.size))
        have HT := Lib.hid (hT.out.next hb3)
        have HT3 := Lib.hid hT3.tin
        clear hT3 hb3 c2 c3
        go_wp2_with fail
        refine (refThen n gt g3 (powF fa n k) (anyTo fa n n) hn _ HT.out.tin HT3.out).mono ?_
        rintro e w4 ⟨g4, r4, rfl, hT4, hb4⟩
        have HB4 := Lib.hid (HB.out.trans (hb4.mono HB.out.size))
        have HT4 := Lib.hid (hT4.lower HB.out.size)
        clear hT4 hb4
        go_wp2_with fail
        go_ret
        exact ⟨g4, r4, rfl, by rw [HF.out]; exact HT4.out, HB4.out⟩
      · have hd := dec_f hneg
        have HF : Hid (timesT fa n k hi = outF fa n k (hi.toNat - k)) := by unfold timesT; rw [if_neg hneg]; exact rfl
        obtain ⟨h, hhe⟩ : ∃ h : Nat, hi = (h : Int) := ⟨hi.toNat, by omega⟩
        subst hhe
        go_wp2_with fail
        clear c2 c3
        go_loopw [5, 6, 7] (fun tv ov x wr => ∃ (m gt go : Nat), (k + m ≤ h ∨ m = 0) ∧ x = .int .i64 ((k + m : Nat) : Int) ∧ tv = .slice (some ⟨gt, 0, none⟩) n n ∧ ov = .slice (some ⟨go, 0, none⟩) n n ∧ Hid (Own wr w.heap.size gt n (powF fa n (k + m))) ∧ Hid (Own wr w.heap.size go n (outF fa n k m)) ∧ Hid (At wr w.heap.size 27 t.cs.toArray) ∧ Hid (Below w.heap.size w wr)) (fun _ _ x _ => 2001 - (intOf x).toNat)
        case atStart => exact ⟨0, gt, gt, .inr rfl, rfl, rfl, rfl, hT, hT, hAt, hB⟩
        case round =>
          clear hT hAt hB
          obtain ⟨m, gt, go, hm, rfl, rfl, rfl, hT, hO, hAt, hB⟩ := hrel
          have c3 := (At.tr_cell hAt.out).2.2.2.1
          rw [HH.out] at c3
          obtain ⟨x, hx⟩ : ∃ x : Nat, k + m = x := ⟨_, rfl⟩
          have HX := Lib.hid hx
          rw [hx]
          by_cases hlt2 : x < h
          · have hkn : (x : Int) < (h : Int) := by omega
            have hkd : decide ((x : Int) < (h : Int)) = true := dec_t hkn
            clear hx
            go_wp2_with fail
            refine (refThen n gt ga (powF fa n (k + m)) fa hn _ hT.out.tin (HA.out.next hB.out)).mono ?_
            rintro e w3 ⟨g3, r3, rfl, hT3, hb3⟩
            have HAt := Lib.hid (hAt.out.step hb3 rfl)
            have HB := Lib.hid (hB.out.trans (hb3.mono hB.out.size))
            have HO := Lib.hid (hO.out.next hb3)
            have HT3 : Hid (Own w3 w.heap.size g3 n (powF fa n (k + (m + 1)))) := Own.of hT3 hB.out.size
            clear hT3 hb3 c3
            go_wp2_with fail
            refine (refEither n go g3 (outF fa n k m) (powF fa n (k + (m + 1))) hn _ HO.out.tin HT3.out.tin).mono ?_
            rintro e w4 ⟨g4, r4, rfl, hT4, hb4⟩
            have HAt4 := Lib.hid (HAt.out.step hb4 rfl)
            have HB4 := Lib.hid (HB.out.trans (hb4.mono HB.out.size))
            have HT5 := Lib.hid (HT3.out.next hb4)
            have HO4 : Hid (Own w4 w.heap.size g4 n (outF fa n k (m + 1))) := Own.of hT4 HB.out.size
            clear hT4 hb4
            go_wp2_with fail
            exact ⟨⟨m + 1, g3, g4, by have := HX.out; omega, by rw [← HX.out]; go_num, rfl, rfl, HT5, HO4, HAt4, HB4⟩, by simp [intOf]; omega⟩
          · have hkd : decide ((x : Int) < (h : Int)) = false := dec_f (by omega)
            have hkn : ¬ (x : Int) < (h : Int) := by omega
            have hme : m = h - k := by omega
            clear hx
            go_wp2_with fail
            go_ret
            obtain ⟨r, hh2⟩ := hO.out
            exact ⟨go, r, rfl, by rw [HF.out]; rw [hme] at hh2; exact hh2, hB.out⟩

end Go.Proofs.Ytignekgckkdgiaa
