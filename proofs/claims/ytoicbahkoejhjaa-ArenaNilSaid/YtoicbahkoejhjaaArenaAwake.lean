/- bolterlaw09.awake, by what an arena does. -/
import Derived.Test.YtoicbahkoejhjaaArenaMade
namespace Go.Proofs.Ytoicbahkoejhjaa
open Go.RowKit
set_option linter.unusedSimpArgs false
set_option linter.unusedVariables false
theorem noSt_ok : noSt.Ok := ⟨by show (0 : Nat) < _; decide, by show (0 : Nat) < _; decide, by show (0 : Nat) < _; decide, by show (0 : Nat) < _; decide⟩
def emptyN : Nd := ⟨1, noSt, 0, 0, false⟩
theorem empty_right : emptyN.right 0 = true := by decide
theorem empty_put : putS [] emptyN = [emptyN] := by
  unfold putS
  rw [if_pos (by exact empty_right), if_neg (by simp)]; rfl
theorem empty_id : putId [] emptyN = 0 := by decide
theorem empty_e : putE [] emptyN = 0 := by decide
section
variable {AA : World → Value → List Nd → (Nat → Prop) → Prop}

set_option maxRecDepth 100000 in
set_option maxHeartbeats 4000000 in
theorem lawAwake9 (S : ArenaSpec AA) (w : World) : Calls Try.prog 7 #[] w fun e w' => e = .returned (.bool true) ∧ Below w.heap.size w w' := by
  go_enter Try.func7, Try.ntmps7
  go_wp2_with fail
  refine (S.new w).mono ?_
  rintro e w1 ⟨a, F1, rfl, hA1, hF1, hB1⟩
  have HA1 := Lib.hid hA1
  have HB1 := Lib.hid hB1
  have HF1 := Lib.hid hF1
  clear hA1 hB1 hF1
  go_wp2_with fail
  refine (S.put emptyN HA1.out ⟨by unfold I64 emptyN; decide, by exact noSt_ok, by unfold I64 emptyN; decide, by unfold I64 emptyN; decide⟩ (by decide)).mono ?_
  rintro e w2 ⟨F2, rfl, hA2, hF2, ho2⟩
  rw [empty_put] at hA2
  rw [empty_id, empty_e]
  have HA2 := Lib.hid hA2
  have HB2 := Lib.hid (HB1.out.trans (ho2.below HF1.out HB1.out.size))
  clear hA2 hF2 ho2
  go_wp2_with fail
  refine (S.len HA2.out (by decide)).mono ?_
  rintro e w3 ⟨rfl, q3, rfl⟩
  have HB3 := Lib.hid (below_drewN' HB2.out q3)
  go_wp2_with fail
  go_ret
  exact ⟨rfl, HB3.out⟩
end

end Go.Proofs.Ytoicbahkoejhjaa
