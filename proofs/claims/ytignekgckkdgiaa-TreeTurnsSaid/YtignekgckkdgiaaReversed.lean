/- What the law's reversed answers: the bytes in the other order, in new memory. -/
import Derived.Test.YtignekgckkdgiaaProg
import Derived.Test.YtignekgckkdgiaaWords
import Derived.Test.YtignekgckkdgiaaCl
import Derived.Test.YtignekgckkdgiaaRow
import Derived.Test.YtignekgckkdgiaaFormed
import Derived.Test.YtignekgckkdgiaaBlank
import Derived.Deep.OwnRows
import Derived.BigRegion
import Derived.BigQuiet
namespace Go.Proofs.Ytignekgckkdgiaa
open Go.RowKit
set_option linter.unusedVariables false

theorem info_u8 : (Try.prog.info? 5).map (fun i => (i.zero, i.size, i.bytes)) = some (some (.int .u8 0), 1, 1) := by kernel_rfl
/-- The bytes of l in the other order, as far as i of them have been laid. -/
def revTo (l : List Nat) (n i m : Nat) : Nat := if n ≤ m + i then (l[n - 1 - m]?).getD 0 else 0
def revRow (l : List Nat) (n i : Nat) : Array Value := arr n (fun m => .int .u8 (revTo l n i m : Nat))
theorem revRow_zero (l : List Nat) (n : Nat) : revRow l n 0 = madeCells #[.int .u8 0] n := by
  unfold revRow arr madeCells
  apply Array.ext_getElem?
  intro i
  by_cases hi : i < n
  · have : ¬ n ≤ i := by omega
    simp [hi, Nat.mod_one, revTo, this]
  · simp [hi]
theorem revRow_set (l : List Nat) (n i : Nat) (h : i < n) (x : Nat) (hx : (l[i]?).getD 0 = x) : (revRow l n i).setIfInBounds (n - 1 - i) (.int .u8 (x : Nat)) = revRow l n (i + 1) := by
  unfold revRow
  rw [arr_set]
  apply arr_congr
  intro m hm
  by_cases e : m = n - 1 - i
  · subst e
    rw [if_pos rfl]
    unfold revTo
    rw [if_pos (by omega), show n - 1 - (n - 1 - i) = i from by omega, hx]
  · rw [if_neg e]
    unfold revTo
    by_cases c : n ≤ m + i
    · rw [if_pos c, if_pos (by omega)]
    · rw [if_neg c, if_neg (by omega)]

set_option maxRecDepth 100000 in
set_option maxHeartbeats 2000000 in
theorem lawReversed (A : Option Addr) (n c : Nat) (l : List Nat) (hn : n ≤ 1000) (w : World) (h : IsBytes w A n l) :
    Calls Try.prog 20 #[.slice A n c] w fun e w' => ∃ g, e = .returned (.slice (some ⟨g, 0, none⟩) n n) ∧ IsBytes w' (some ⟨g, 0, none⟩) n l.reverse ∧ Below w.heap.size w w' := by
  have HI := Lib.hid h
  have hl : n = l.length := h.1
  have HL := Lib.hid hl
  clear h hl
  have hm1 := run_make_row' (P := Try.prog) 36 5 (.int .u8 0) 1 Try.underlying36 info_u8 rfl .i64 .i64 n (by omega) (by omega)
  rw [← revRow_zero l n] at hm1
  go_enter Try.func20, Try.ntmps20
  go_wp2_with fail
  clear hm1
  obtain ⟨g, hg⟩ : ∃ g, g = w.heap.size := ⟨_, rfl⟩
  have HG := Lib.hid hg
  have HT0 : Hid (At (w.alloc (Obj.cells (revRow l n 0) 5)) g 5 (revRow l n 0)) := by rw [hg]; exact At.new _ _ _
  rw [← hg]
  clear hg
  go_loopw [10] (fun x wr => ∃ i : Nat, i ≤ n ∧ x = .int .i64 i ∧ Hid (At wr g 5 (revRow l n i)) ∧ Hid (Below w.heap.size w wr)) (fun x _ => n - (intOf x).toNat)
  case atStart => exact ⟨0, Nat.zero_le _, rfl, HT0, Lib.hid ((Below.refl _ _).alloc (Nat.le_refl _) _)⟩
  case round =>
    obtain ⟨i, hi, rfl, hT, hB⟩ := hrel
    by_cases hlt : i < n
    · have hlt' : i < l.length := by have := HL.out; omega
      obtain ⟨b, off, rfl, hb, hc⟩ := (HI.out.below hB.out).2.2.2 (by omega)
      have q1 := hc i hlt'
      have hx8 := HI.out.2.2.1 i hlt'
      obtain ⟨x, hx⟩ : ∃ x : Nat, l[i] = x := ⟨_, rfl⟩
      rw [hx] at q1 hx8
      have HX : Hid ((l[i]?).getD 0 = x) := by rw [List.getElem?_eq_getElem hlt', ← hx]; exact rfl
      clear hx hc hb
      obtain ⟨m, hm⟩ : ∃ m : Nat, m = n - 1 - i := ⟨_, rfl⟩
      have hmn : m < n := by omega
      have q2 := hT.out.cell m
      unfold revRow at q2
      rw [arr_get _ _ m hmn] at q2
      have q3 := hT.out.free m
      have hmi : (n : Int) - 1 - (i : Int) = (m : Int) := by omega
      have hw1 : IntKind.i64.wrap ((n : Int) - 1) = (n : Int) - 1 := by rw [IntKind.wrap_i64]; omega
      have hw2 : IntKind.i64.wrap ((n : Int) - 1 - (i : Int)) = (m : Int) := by rw [hmi, IntKind.wrap_i64]; omega
      have hm0 : (0 : Int) ≤ (m : Int) := by omega
      have hmn' : (m : Int) < (n : Int) := by omega
      have hi0 : (0 : Int) ≤ (i : Int) := by omega
      have hin : (i : Int) < (n : Int) := by omega
      have HMe := Lib.hid hm
      clear hm hmi
      go_wp2_with fail
      refine ⟨⟨i + 1, by omega, by go_num, Lib.hid ?_, Lib.hid (hB.out.setCell (by have := HG.out; dsimp only; omega) _)⟩, by simp [intOf]; omega⟩
      have h1 := hT.out.set m (.int .u8 (x : Nat))
      rw [HMe.out, revRow_set l n i hlt x HX.out, ← HMe.out] at h1
      exact h1
    · obtain rfl : i = n := by omega
      go_wp2_with fail
      go_ret
      refine ⟨g, rfl, ⟨by rw [List.length_reverse]; exact HL.out, by omega, fun k hk => ?_, fun hn0 => ⟨g, 0, rfl, hT.out.lt, fun k hk => ?_⟩⟩, hB.out⟩
      · rw [List.getElem_reverse]
        exact HI.out.2.2.1 _ _
      · have hk' : k < i := by rw [List.length_reverse] at hk; have := HL.out; omega
        rw [Nat.zero_add, hT.out.cell k]
        unfold revRow
        rw [arr_get _ _ k hk']
        unfold revTo
        rw [if_pos (by omega), List.getElem_reverse]
        have e : i - 1 - k = l.length - 1 - k := by have := HL.out; omega
        rw [e, List.getElem?_eq_getElem (by have := HL.out; omega)]
        rfl

end Go.Proofs.Ytignekgckkdgiaa
