/- package formula: parts as they lie; partOf. -/
import Derived.Test.YtehokjaojanieaaFoA
namespace Go.Proofs.Ytehokjaojanieaa
open Go.RowKit
set_option linter.unusedVariables false
set_option linter.unusedSimpArgs false

/-- The bits of a part's mark. -/
def MarkOk (m : Nat) (l : List Int) : Prop := m < 18446744073709551616 ∧ ∀ i, i < 64 → m.testBit i = l.any (fun n => n.toNat % 64 == i)
theorem mark_nil : MarkOk 0 [] := ⟨by omega, fun i _ => by simp⟩
theorem mark_step {m : Nat} {l : List Int} {n : Int} (h : MarkOk m l) : MarkOk (m ||| 2 ^ (n.toNat % 64)) (l ++ [n]) := by
  have hlt : n.toNat % 64 < 64 := Nat.mod_lt _ (by omega)
  refine ⟨Nat.or_lt_two_pow (n := 64) h.1 (Nat.pow_lt_pow_right (by omega) hlt), fun i hi => ?_⟩
  rw [Nat.testBit_or, h.2 i hi, Nat.testBit_two_pow, List.any_append]
  by_cases e : n.toNat % 64 = i <;> simp [e]
theorem mark_or {m m' : Nat} {l l' k : List Int} (h : MarkOk m l) (h' : MarkOk m' l') (hk : ∀ x, x ∈ k ↔ x ∈ l ∨ x ∈ l') : MarkOk (m ||| m') k := by
  refine ⟨Nat.or_lt_two_pow (n := 64) h.1 h'.1, fun i hi => ?_⟩
  rw [Nat.testBit_or, h.2 i hi, h'.2 i hi, Bool.eq_iff_iff]
  simp only [Bool.or_eq_true, List.any_eq_true, beq_iff_eq]
  constructor
  · rintro (⟨x, hx, e⟩ | ⟨x, hx, e⟩)
    · exact ⟨x, (hk x).2 (.inl hx), e⟩
    · exact ⟨x, (hk x).2 (.inr hx), e⟩
  · rintro ⟨x, hx, e⟩
    rcases (hk x).1 hx with h | h
    · exact .inl ⟨x, h, e⟩
    · exact .inr ⟨x, h, e⟩

theorem and63 (n : Nat) : bits .and .i64 (n : Int) 63 = ((n % 64 : Nat) : Int) := by
  have h127 : (BitVec.ofInt 64 63).toNat = 2 ^ 6 - 1 := by decide
  have key : (BitVec.ofInt 64 (n : Int) &&& BitVec.ofInt 64 63).toNat = ((n : Int) % ((2 ^ 64 : Nat) : Int)).toNat % 2 ^ 6 := by
    rw [BitVec.toNat_and, BitVec.toNat_ofInt, h127, Nat.and_two_pow_sub_one_eq_mod]
  show IntKind.i64.wrap ((BitVec.ofInt 64 (n : Int) &&& BitVec.ofInt 64 63).toNat : Nat) = _
  rw [key, IntKind.wrap_i64]
  omega

set_option maxRecDepth 100000 in
set_option maxHeartbeats 2000000 in
theorem fPartOf (a : List Int) (A : Option Addr) (n c : Nat) (w : World) (h : IntsAt w (.slice A n c) a) (h0 : ∀ x ∈ a, 0 ≤ x) :
    Calls Try.prog 31 #[.slice A n c] w fun e w' => ∃ m : Nat, e = .returned (.agg #[.slice A a.length c, .int .u64 m]) ∧ MarkOk m a ∧ Below w.heap.size w w' := by
  have HI := Lib.hid h
  have hm := h.max
  obtain rfl := h.len
  have H0 := Lib.hid h0
  clear h h0
  go_enter Try.func31, Try.ntmps31
  have hBw : Below w.heap.size w (w.alloc (.cells #[.slice none 0 0, .int .u64 0] 50)) := (Below.refl _ _).alloc (Nat.le_refl _) _
  have hAt : At (w.alloc (.cells #[.slice none 0 0, .int .u64 0] 50)) w.heap.size 50 #[.slice none 0 0, .int .u64 0] := At.new _ _ _
  go_wp2_with fail
  generalize w.alloc (.cells #[.slice none 0 0, .int .u64 0] 50) = W at hBw hAt ⊢
  have HB := Lib.hid hBw
  have HA := Lib.hid hAt
  have HJ := Lib.hid (HI.out.next hBw)
  clear hBw hAt
  go_loopw [3, 8] (fun u v wr => ∃ (i m : Nat), i ≤ a.length ∧ v = .int .i64 i ∧ u = .int .u64 m ∧ W = wr ∧ Hid (MarkOk m (a.take i))) (fun _ v _ => a.length - (intOf v).toNat)
  case atStart => exact ⟨0, 0, Nat.zero_le _, rfl, rfl, rfl, Lib.hid mark_nil⟩
  case round =>
    obtain ⟨i, m, hi, rfl, rfl, rfl, HN⟩ := hrel
    by_cases hlt : i < a.length
    · have h1 : (0 : Int) ≤ (i : Int) := by omega
      have h2 : (i : Int) < (a.length : Int) := by omega
      obtain ⟨ba, oa, rfl, hb, q1⟩ := HJ.out.at i hlt
      have hst : Hid (MarkOk (m ||| 2 ^ ((inAt a i).toNat % 64)) (a.take (i + 1))) := Lib.hid (by rw [take_step a i hlt, ← inAt_lt hlt]; exact mark_step HN.out)
      have hx0 : 0 ≤ inAt a i := H0.out _ (by rw [inAt_lt hlt]; exact List.getElem_mem hlt)
      obtain ⟨x, hx⟩ : ∃ x, inAt a i = x := ⟨_, rfl⟩
      rw [hx] at q1 hst hx0
      clear hx
      obtain ⟨k, rfl⟩ := Int.eq_ofNat_of_zero_le hx0
      rw [Int.toNat_natCast] at hst
      have hk : k % 64 < 64 := Nat.mod_lt _ (by omega)
      have e1 : bits .and .i64 (k : Int) 63 = ((k % 64 : Nat) : Int) := and63 k
      have hp : (2 : Int) ^ (k % 64) = ((2 ^ (k % 64) : Nat) : Int) := by rw [Int.natCast_pow]; rfl
      have e2 : IntKind.u64.wrap ((2 : Int) ^ (k % 64)) = (2 : Int) ^ (k % 64) := by
        have h3 := Nat.pow_lt_pow_right (a := 2) (by omega) hk
        rw [hp]
        obtain ⟨z, hz⟩ : ∃ z, 2 ^ (k % 64) = z := ⟨_, rfl⟩
        rw [hz] at h3 ⊢
        simp [IntKind.wrap, IntKind.bits, IntKind.signed]; omega
      have e3 : bits .or .u64 (m : Int) ((2 : Int) ^ (k % 64)) = ((m ||| 2 ^ (k % 64) : Nat) : Int) := by rw [hp]; exact bits_or _ _ HN.out.1 (Nat.pow_lt_pow_right (by omega) hk)
      clear hp
      go_wp2_with fail
      refine ⟨⟨i + 1, m ||| 2 ^ (k % 64), by omega, by go_num, by rfl, by first | rfl | trivial, hst⟩, by simp [intOf]; omega⟩
    · obtain rfl : i = a.length := by omega
      have a0 := HA.out.cell 0
      have a1 := HA.out.cell 1
      have f0 := HA.out.free 0
      have f1 := HA.out.free 1
      go_wp2_with fail
      exact bodyPost_ret (results_cell_row Try.results31 _ _ w.heap.size 50 #[.slice A a.length c, .int .u64 m] (0, 0) _ rfl ((HA.out.set 0 _).set 1 _) Try.underlying50 rfl (by kernel_rfl)) rfl
        ⟨m, rfl, by have := HN.out; rwa [List.take_length] at this, (HB.out.setCell (p := ⟨w.heap.size, 0, none⟩) (Nat.le_refl _) _).setCell (p := ⟨w.heap.size, 1, none⟩) (Nat.le_refl _) _⟩

end Go.Proofs.Ytehokjaojanieaa
