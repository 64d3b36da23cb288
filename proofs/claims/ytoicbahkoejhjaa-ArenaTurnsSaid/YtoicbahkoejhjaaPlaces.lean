/- bolterlaw09.Places: what is seen at so many places, of a list as long as may be; in new memory. -/
import Derived.Test.YtoicbahkoejhjaaProg
import Derived.Test.YtoicbahkoejhjaaWords
import Derived.Test.YtoicbahkoejhjaaCl
import Derived.Test.YtoicbahkoejhjaaRow
import Derived.Test.YtoicbahkoejhjaaFormed
import Derived.Test.YtoicbahkoejhjaaBlank
import Derived.Deep.OwnRows
import Derived.BigRegion
import Derived.BigQuiet
namespace Go.Proofs.Ytoicbahkoejhjaa
open Go.RowKit
set_option linter.unusedVariables false

theorem info_u8p : (Try.prog.info? 5).map (fun i => (i.zero, i.size, i.bytes)) = some (some (.int .u8 0), 1, 1) := by kernel_rfl
def placesS (l : List Nat) (m : Nat) : List Nat := (List.range m).map (fun k => (l[k]?).getD 0)
theorem placesS_length (l : List Nat) (m : Nat) : (placesS l m).length = m := by simp [placesS]
theorem placesS_get (l : List Nat) (m k : Nat) (h : k < (placesS l m).length) : (placesS l m)[k] = (l[k]?).getD 0 := by simp [placesS]
def plTo (l : List Nat) (i k : Nat) : Nat := if k < i then (l[k]?).getD 0 else 0
def plRow (l : List Nat) (m i : Nat) : Array Value := arr m (fun k => .int .u8 (plTo l i k : Nat))
theorem plRow_zero (l : List Nat) (m : Nat) : plRow l m 0 = madeCells #[.int .u8 0] m := by
  unfold plRow arr madeCells
  apply Array.ext_getElem?
  intro i
  by_cases hi : i < m
  · simp [hi, Nat.mod_one, plTo]
  · simp [hi]
theorem plRow_set (l : List Nat) (m i : Nat) (x : Nat) (hx : (l[i]?).getD 0 = x) : (plRow l m i).setIfInBounds i (.int .u8 (x : Nat)) = plRow l m (i + 1) := by
  unfold plRow
  rw [arr_set]
  apply arr_congr
  intro k hk
  by_cases e : k = i
  · subst e
    rw [if_pos rfl]
    unfold plTo
    rw [if_pos (by omega), hx]
  · rw [if_neg e]
    unfold plTo
    by_cases c : k < i
    · rw [if_pos c, if_pos (by omega)]
    · rw [if_neg c, if_neg (by omega)]
theorem plRow_skip (l : List Nat) (m i : Nat) (h : l.length ≤ i) : plRow l m i = plRow l m (i + 1) := by
  unfold plRow
  apply arr_congr
  intro k hk
  unfold plTo
  by_cases c : k < i
  · rw [if_pos c, if_pos (by omega)]
  · rw [if_neg c]
    split
    · rw [List.getElem?_eq_none (by omega)]; rfl
    · rfl

set_option maxRecDepth 100000 in
set_option maxHeartbeats 2000000 in
theorem lawPlaces (A : Option Addr) (n c : Nat) (l : List Nat) (m : Nat) (hm : m ≤ 1000) (w : World) (h : IsBytes w A n l) :
    Calls Try.prog 16 #[.slice A n c, .int .i64 m] w fun e w' => ∃ g, e = .returned (.slice (some ⟨g, 0, none⟩) m m) ∧ IsBytes w' (some ⟨g, 0, none⟩) m (placesS l m) ∧ w.heap.size ≤ g ∧ Below w.heap.size w w' := by
  have HI := Lib.hid h
  have hl : n = l.length := h.1
  have HL := Lib.hid hl
  have hn63 : n ≤ 9223372036854775807 := h.2.1
  clear h hl
  have hm1 := run_make_row' (P := Try.prog) 39 5 (.int .u8 0) 1 Try.underlying39 info_u8p rfl .i64 .i64 m (by omega) (by omega)
  rw [← plRow_zero l m] at hm1
  go_enter Try.func16, Try.ntmps16
  go_wp2_with fail
  clear hm1
  obtain ⟨g, hg⟩ : ∃ g, g = w.heap.size := ⟨_, rfl⟩
  have HG := Lib.hid hg
  have HT0 : Hid (At (w.alloc (Obj.cells (plRow l m 0) 5)) g 5 (plRow l m 0)) := by rw [hg]; exact At.new _ _ _
  rw [← hg]
  clear hg
  go_loopw [11] (fun x wr => ∃ i : Nat, i ≤ m ∧ x = .int .i64 i ∧ Hid (At wr g 5 (plRow l m i)) ∧ Hid (Below w.heap.size w wr)) (fun x _ => m - (intOf x).toNat)
  case atStart => exact ⟨0, Nat.zero_le _, rfl, HT0, Lib.hid ((Below.refl _ _).alloc (Nat.le_refl _) _)⟩
  case round =>
    obtain ⟨i, hi, rfl, hT, hB⟩ := hrel
    by_cases hlt : i < m
    · have hi0 : (0 : Int) ≤ (i : Int) := by omega
      have him : (i : Int) < (m : Int) := by omega
      by_cases hin : i < n
      · have hlt' : i < l.length := by have := HL.out; omega
        obtain ⟨b, off, rfl, hb, hc⟩ := (HI.out.below hB.out).2.2.2 (by omega)
        have q1 := hc i hlt'
        have hx8 := HI.out.2.2.1 i hlt'
        obtain ⟨x, hx⟩ : ∃ x : Nat, l[i] = x := ⟨_, rfl⟩
        rw [hx] at q1 hx8
        have HX : Hid ((l[i]?).getD 0 = x) := by rw [List.getElem?_eq_getElem hlt', ← hx]; exact rfl
        clear hx hc hb
        have q2 := hT.out.cell i
        unfold plRow at q2
        rw [arr_get _ _ i hlt] at q2
        have q3 := hT.out.free i
        have hin' : (i : Int) < (n : Int) := by omega
        go_wp2_with fail
        refine ⟨⟨i + 1, by omega, by go_num, Lib.hid ?_, Lib.hid (hB.out.setCell (by have := HG.out; dsimp only; omega) _)⟩, by simp [intOf]; omega⟩
        have h1 := hT.out.set i (.int .u8 (x : Nat))
        rw [plRow_set l m i x HX.out] at h1
        exact h1
      · have hin' : ¬ (i : Int) < (n : Int) := by omega
        have HS := Lib.hid (plRow_skip l m i (by have := HL.out; omega))
        go_wp2_with fail
        refine ⟨⟨i + 1, by omega, by go_num, Lib.hid ?_, hB⟩, by simp [intOf]; omega⟩
        rw [← HS.out]; exact hT.out
    · obtain rfl : i = m := by omega
      go_wp2_with fail
      go_ret
      refine ⟨g, rfl, ⟨by rw [placesS_length], by omega, fun k hk => ?_, fun hn0 => ⟨g, 0, rfl, hT.out.lt, fun k hk => ?_⟩⟩, by have := HG.out; omega, hB.out⟩
      · rw [placesS_get]
        by_cases hkl : k < l.length
        · rw [List.getElem?_eq_getElem hkl]; exact HI.out.2.2.1 k hkl
        · rw [List.getElem?_eq_none (by omega)]; decide
      · have hk' : k < i := by rw [placesS_length] at hk; exact hk
        rw [Nat.zero_add, hT.out.cell k]
        unfold plRow
        rw [arr_get _ _ k hk', placesS_get]
        unfold plTo
        rw [if_pos hk']

end Go.Proofs.Ytoicbahkoejhjaa
