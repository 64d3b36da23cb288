/- Which classes are right: the law's own way and the program's. -/
import Derived.Test.YthmppooefajpgaaProg
import Derived.Test.YthmppooefajpgaaWords
import Derived.Test.YthmppooefajpgaaCl
namespace Go.Proofs.Ythmppooefajpgaa
open Go.RowKit

theorem ret_bool' {a b : Bool} (h : a = b) : Ending.returned (.bool a) = .returned (.bool b) := by rw [h]

set_option maxRecDepth 100000 in
set_option maxHeartbeats 400000 in
theorem lawRight (c : Cl) (hc : c.Ok) (w : World) :
    Calls Try.prog 8 #[.agg c.cells] w fun e w' => e = .returned (.bool c.right) ∧ Below w.heap.size w w' := by
  have HO := Lib.hid hc
  clear hc
  have HC := Lib.hid (At.new w 26 c.cells)
  go_enter Try.func8, Try.ntmps8
  go_wp2
  go_loop [3, 6] (fun x i => ∃ k m : Nat, k ≤ 256 ∧ i = .int .i64 k ∧ x = .int .i64 m ∧ Hid (c.met k = some m)) (fun _ i => 256 - (intOf i).toNat)
  case atStart => exact ⟨0, 0, Nat.zero_le _, rfl, rfl, Lib.hid rfl⟩
  case round =>
    obtain ⟨k, m, hk, rfl, rfl, hm⟩ := hrel
    have hmk := Cl.met_le c k m hm.out
    by_cases hlt : k < 256
    · have hcell := HC.out.cell k
      rw [Cl.get c k hlt] at hcell
      have hx := HO.out k hlt
      obtain ⟨x, hxe⟩ : ∃ x : Nat, c.cl k = x := ⟨_, rfl⟩
      rw [hxe] at hcell hx
      have HX := Lib.hid hxe
      clear hxe
      rcases Nat.lt_trichotomy m x with h | h | h
      · go_wp2
        go_ret
        exact ⟨ret_bool' (Cl.met_wrong c k m hlt hm.out (by rw [HX.out]; exact h)).symm, (Below.refl _ _).alloc (Nat.le_refl _) _⟩
      · subst h
        go_wp2
        go_round
        case rel => exact ⟨k + 1, m + 1, by omega, by go_num, by go_num, Lib.hid (Cl.met_eq c k m hm.out HX.out)⟩
        case measure => simp [intOf]; omega
      · go_wp2
        go_round
        case rel => exact ⟨k + 1, m, by omega, by go_num, rfl, Lib.hid (Cl.met_lt c k m hm.out (by rw [HX.out]; exact h))⟩
        case measure => simp [intOf]; omega
    · obtain rfl : k = 256 := by omega
      have hcell := HC.out.cell 256
      rw [Cl.getN c] at hcell
      go_wp2
      go_ret
      exact ⟨ret_bool' (Cl.right_of c m hm.out).symm, (Below.refl _ _).alloc (Nat.le_refl _) _⟩

theorem row_range (c : Cl) (w : World) (g : Nat) (t : TypeId) (h : At w g t c.cells) : w.rangeAt g 0 c.rowl := by
  intro j v hv
  unfold Cl.rowl at hv
  have hj : j < 256 := by
    have := (List.getElem?_eq_some_iff.1 hv).1
    simpa using this
  rw [Nat.zero_add, h.cell j, Cl.get c j hj, ← hv]
  simp [hj]
theorem run_index_row {P : Program} {T E : TypeId} (hu : P.underlying T = some (.array 256 E)) (hE : P.underlying E = some (.int .u8)) (hc : (P.info? E).map (·.size) = some 1) (c : Cl) (k : Nat) (hk : k < 256) (w : World) :
    (Instr.index T (.agg c.rowl.toArray) (.int .i64 (k : Nat))).run P w = .ok (.int .u8 (c.cl k : Nat)) w := by
  have hx : c.rowl.toArray[k]? = some (.int .u8 (c.cl k : Nat)) := by unfold Cl.rowl; simp [hk]
  cases hq : P.info? E with
  | none => simp [hq] at hc
  | some i =>
    have hs : i.size = 1 := by simpa [hq] using hc
    simp only [List.getElem?_toArray] at hx
    simp [Instr.index, run_underlying hu, asIntOf, part, isAgg, run_underlying hE, sizeOf, typeInfo, hq, hs, hx, hk]
theorem Cl.rowl_length (c : Cl) : c.rowl.length = 256 := by simp [Cl.rowl]

set_option maxRecDepth 100000 in
set_option maxHeartbeats 400000 in
theorem clRight (c : Cl) (hc : c.Ok) (w : World) :
    Calls Try.prog 9 #[.agg c.cells] w fun e w' => e = .returned (.bool c.right) ∧ Below w.heap.size w w' := by
  have HO := Lib.hid hc
  clear hc
  have HC := Lib.hid (At.new w 26 c.cells)
  have HR := Lib.hid (row_range c _ _ _ HC.out)
  go_enter Try.func9, Try.ntmps9
  go_wp2_with (refine wpList_load_mid rfl 24 _ rfl _ 0 rfl c.rowl _ HR.out Try.underlying24 rfl (by rw [Cl.rowl_length]; kernel_rfl) ?_)
  go_loop [3, 8] (fun x i => ∃ k m : Nat, k ≤ 256 ∧ i = .int .i64 k ∧ x = .int .i64 m ∧ Hid (c.met k = some m)) (fun _ i => 256 - (intOf i).toNat)
  case atStart => exact ⟨0, 0, Nat.zero_le _, rfl, rfl, Lib.hid rfl⟩
  case round =>
    obtain ⟨k, m, hk, rfl, rfl, hm⟩ := hrel
    have hmk := Cl.met_le c k m hm.out
    by_cases hlt : k < 256
    · have hcell := run_index_row Try.underlying24 Try.underlying5 (by kernel_rfl) c k hlt (w.alloc (Obj.cells c.cells 26))
      have hx := HO.out k hlt
      obtain ⟨x, hxe⟩ : ∃ x : Nat, c.cl k = x := ⟨_, rfl⟩
      rw [hxe] at hcell hx
      have HX := Lib.hid hxe
      clear hxe
      rcases Nat.lt_trichotomy m x with h | h | h
      · go_wp2
        go_ret
        exact ⟨ret_bool' (Cl.met_wrong c k m hlt hm.out (by rw [HX.out]; exact h)).symm, (Below.refl _ _).alloc (Nat.le_refl _) _⟩
      · subst h
        go_wp2
        go_round
        case rel => exact ⟨k + 1, m + 1, by omega, by go_num, by go_num, Lib.hid (Cl.met_eq c k m hm.out HX.out)⟩
        case measure => simp [intOf]; omega
      · go_wp2
        go_round
        case rel => exact ⟨k + 1, m, by omega, by go_num, rfl, Lib.hid (Cl.met_lt c k m hm.out (by rw [HX.out]; exact h))⟩
        case measure => simp [intOf]; omega
    · obtain rfl : k = 256 := by omega
      have hcell := HC.out.cell 256
      rw [Cl.getN c] at hcell
      go_wp2
      go_ret
      exact ⟨ret_bool' (Cl.right_of' c m hm.out).symm, (Below.refl _ _).alloc (Nat.le_refl _) _⟩

end Go.Proofs.Ythmppooefajpgaa
