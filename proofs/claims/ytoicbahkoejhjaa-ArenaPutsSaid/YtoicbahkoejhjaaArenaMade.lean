/- bolterlaw09.Made, bolterref09.Nodes, bolterlaw09.awake: by what an arena does. -/
import Derived.Test.YtoicbahkoejhjaaArenaSpec
import Derived.Deep.AppendLies
import Derived.BigRegion
import Derived.BigQuiet
namespace Go.Proofs.Ytoicbahkoejhjaa
open Go.RowKit
set_option linter.unusedSimpArgs false
set_option linter.unusedVariables false
section
variable {AA : World → Value → List Nd → (Nat → Prop) → Prop}

set_option maxRecDepth 100000 in
set_option maxHeartbeats 4000000 in
theorem lawMade (S : ArenaSpec AA) (l : List Nd) (v0 : Value) (hl : l.length ≤ 1000) (w : World) (hv : NdsAt w v0 l) (hf : ∀ j, j < l.length → NdFit (ndAt l j)) :
    Calls Try.prog 14 #[v0] w fun e w' => ∃ a F, e = .returned a ∧ AA w' a (madeS l) F ∧ (∀ b, F b → w.heap.size ≤ b) ∧ Below w.heap.size w w' := by
  have HV := Lib.hid hv
  obtain ⟨A0, c0, rfl, _, _⟩ := HV.out
  have HF := Lib.hid hf
  clear hv hf
  go_enter Try.func14, Try.ntmps14
  go_wp2_with fail
  refine (S.new w).mono ?_
  rintro e w1 ⟨a, F1, rfl, hA1, hF1, hB1⟩
  have HA1 := Lib.hid hA1
  have HB1 := Lib.hid hB1
  have HF1 := Lib.hid hF1
  clear hA1 hB1 hF1
  go_wp2_with fail
  go_loopw [8] (fun x wr => ∃ (j : Nat) (F : Nat → Prop), j ≤ l.length ∧ x = .int .i64 j ∧ Hid (AA wr a (madeS (l.take j)) F) ∧ Hid (∀ b, F b → w.heap.size ≤ b) ∧ Hid (Below w.heap.size w wr)) (fun x _ => l.length - (intOf x).toNat)
  case atStart => exact ⟨0, F1, Nat.zero_le _, rfl, HA1, HF1, HB1⟩
  case round =>
    clear HA1 HF1 HB1
    obtain ⟨j, F, hj, rfl, HA, HG, HB⟩ := hrel
    by_cases hjl : j < l.length
    · have hjz : (0 : Int) ≤ (j : Int) := by omega
      have hjn : (j : Int) < (l.length : Int) := by omega
      obtain ⟨A', cap, e1, _, h3⟩ := HV.out.next HB.out
      injection e1 with e1 _ e3
      subst e1
      subst e3
      obtain ⟨b, off, rfl, hbb, hr⟩ := h3 (by omega)
      have HR := Lib.hid (hr j hjl)
      have HFx := Lib.hid (HF.out j hjl)
      have HM := Lib.hid (made_succ l j hjl)
      obtain ⟨x, hx⟩ : ∃ x, ndAt l j = x := ⟨_, rfl⟩
      rw [hx] at HR HFx HM
      have hlen : (madeS (l.take j)).length ≤ 1000 := by have := made_le (l.take j); rw [List.length_take] at this; omega
      clear hr hbb h3 hx
      go_wp2_with (first
        | (with_reducible show wpList _ _ _ ({ dst := some 15, op := .load _ _, type := _, pos := _, after := _, guard := _ } :: _) _ _
           refine wpList_load_mid rfl 34 _ rfl b (off + j * 8) rfl x.cs _ HR.out Try.underlying34 rfl (by rw [Nd.cs_length]; kernel_rfl) ?_)
        | fail)
      refine (S.put x HA.out HFx.out hlen).mono ?_
      rintro e w4 ⟨F2, rfl, hA2, hF2, ho2⟩
      have HA2 := Lib.hid hA2
      have HG2 : Hid (∀ b, F2 b → w.heap.size ≤ b) := Lib.hid (fun b q => by rcases hF2 b q with h | h; exact HG.out b h; exact Nat.le_trans HB.out.size h)
      have HB2 := Lib.hid (HB.out.trans (ho2.below HG.out HB.out.size))
      clear hA2 hF2 ho2
      rw [← HM.out] at HA2
      go_wp2_with fail
      refine ⟨⟨j + 1, F2, by omega, by go_num, HA2, HG2, HB2⟩, by simp [intOf]; omega⟩
    · obtain rfl : j = l.length := by omega
      go_wp2_with fail
      go_ret
      exact ⟨a, F, rfl, by have := HA.out; rw [List.take_length] at this; exact this, HG.out, HB.out⟩

end

end Go.Proofs.Ytoicbahkoejhjaa
