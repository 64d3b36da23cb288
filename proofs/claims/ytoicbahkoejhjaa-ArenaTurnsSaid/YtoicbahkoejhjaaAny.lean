/- What the reference's Any and times answer. -/
import Derived.Test.YtoicbahkoejhjaaProg
import Derived.Test.YtoicbahkoejhjaaWords
import Derived.Test.YtoicbahkoejhjaaCl
import Derived.Test.YtoicbahkoejhjaaRow
import Derived.Test.YtoicbahkoejhjaaTr
import Derived.Test.YtoicbahkoejhjaaFormed
import Derived.Test.YtoicbahkoejhjaaTable
import Derived.Test.YtoicbahkoejhjaaBlank
import Derived.Test.YtoicbahkoejhjaaOne
import Derived.Test.YtoicbahkoejhjaaThen
import Derived.Test.YtoicbahkoejhjaaEither
namespace Go.Proofs.Ytoicbahkoejhjaa
open Go.RowKit
set_option linter.unusedVariables false

def eqF (i j : Nat) : Bool := decide (i = j)
def anyTo (fa : Nat → Nat → Bool) (n : Nat) : Nat → Nat → Nat → Bool
  | 0 => eqF
  | m + 1 => fun i j => anyTo fa n m i j || thenF (anyTo fa n m) fa n i j
def powF (fa : Nat → Nat → Bool) (n : Nat) : Nat → Nat → Nat → Bool
  | 0 => eqF
  | m + 1 => thenF (powF fa n m) fa n
/-- Some number of times from l to l + m. -/
def outF (fa : Nat → Nat → Bool) (n l : Nat) : Nat → Nat → Nat → Bool
  | 0 => powF fa n l
  | m + 1 => fun i j => outF fa n l m i j || powF fa n (l + (m + 1)) i j
def timesT (fa : Nat → Nat → Bool) (n l : Nat) (hi : Int) : Nat → Nat → Bool := if hi < 0 then thenF (powF fa n l) (anyTo fa n n) n else outF fa n l (hi.toNat - l)
theorem TabAt.tin {w : World} {E B : TypeId} {base g n : Nat} {r : Nat → Nat} {f : Nat → Nat → Bool} (h : TabAt w E B base g n r f) : TabIn w E B g n f := ⟨r, h.lower (Nat.zero_le _)⟩
/-- A table of the call's own, wherever it is by now. -/
def Own (w : World) (base g n : Nat) (f : Nat → Nat → Bool) : Prop := ∃ r, TabAt w 50 4 base g n r f
theorem Own.tin {w : World} {base g n : Nat} {f : Nat → Nat → Bool} (h : Own w base g n f) : TIn w g n f := by obtain ⟨r, h⟩ := h; exact h.tin
theorem Own.next {w w' : World} {base g n : Nat} {f : Nat → Nat → Bool} (h : Own w base g n f) (hb : Below w.heap.size w w') : Own w' base g n f := by obtain ⟨r, h⟩ := h; exact ⟨r, h.next hb⟩
theorem Own.of {w : World} {base base' g n : Nat} {r : Nat → Nat} {f : Nat → Nat → Bool} (h : TabAt w 50 4 base g n r f) (hb : base' ≤ base) : Own w base' g n f := ⟨r, h.lower hb⟩

set_option maxRecDepth 100000 in
set_option maxHeartbeats 2000000 in
theorem refAny (n ga : Nat) (fa : Nat → Nat → Bool) (hn : n ≤ 1000) (w : World) (ha : TIn w ga n fa) :
    Calls Try.prog 35 #[.slice (some ⟨ga, 0, none⟩) n n] w (Tabled w n (anyTo fa n n)) := by
  have HA := Lib.hid ha
  clear ha
  go_enter Try.func35, Try.ntmps35
  go_wp2_with fail
  refine (refOne n hn _).mono ?_
  rintro e w1 ⟨g1, r1, rfl, hT1, hb1⟩
  have HT1 : Hid (Own w1 w.heap.size g1 n (anyTo fa n 0)) := Own.of (hT1.congr (fun _ _ _ _ => rfl)) (Nat.le_refl _)
  have HB1 := Lib.hid hb1
  clear hT1 hb1
  go_wp2_with fail
  go_loopw [3, 9] (fun t x wr => ∃ (k gt : Nat), k ≤ n ∧ x = .int .i64 k ∧ t = .slice (some ⟨gt, 0, none⟩) n n ∧ Hid (Own wr w.heap.size gt n (anyTo fa n k)) ∧ Hid (Below w.heap.size w wr)) (fun _ x _ => n - (intOf x).toNat)
  case atStart => exact ⟨0, g1, Nat.zero_le _, rfl, rfl, HT1, HB1⟩
  case round =>
    obtain ⟨k, gt, hk, rfl, rfl, hT, hB⟩ := hrel
    by_cases hlt : k < n
    · have hkn : (k : Int) < (n : Int) := by omega
      go_wp2_with fail
      refine (refThen n gt ga (anyTo fa n k) fa hn _ hT.out.tin (HA.out.next hB.out)).mono ?_
      rintro e w3 ⟨g3, r3, rfl, hT3, hb3⟩
      have HT := Lib.hid (hT.out.next hb3)
      have HB := Lib.hid (hB.out.trans (hb3.mono hB.out.size))
      have HT3 := Lib.hid hT3.tin
      clear hT3 hb3
      go_wp2_with fail
      refine (refEither n gt g3 (anyTo fa n k) (thenF (anyTo fa n k) fa n) hn _ HT.out.tin HT3.out).mono ?_
      rintro e w4 ⟨g4, r4, rfl, hT4, hb4⟩
      have HB4 := Lib.hid (HB.out.trans (hb4.mono HB.out.size))
      have HT4 : Hid (Own w4 w.heap.size g4 n (anyTo fa n (k + 1))) := Own.of hT4 HB.out.size
      clear hT4 hb4
      go_wp2_with fail
      exact ⟨⟨k + 1, g4, by omega, by go_num, rfl, HT4, HB4⟩, by simp [intOf]; omega⟩
    · obtain rfl : k = n := by omega
      go_wp2_with fail
      go_ret
      obtain ⟨r, h⟩ := hT.out
      exact ⟨gt, r, rfl, h, hB.out⟩

end Go.Proofs.Ytoicbahkoejhjaa
