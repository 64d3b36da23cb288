/- bolterlaw11.Few: two formulas of a size that is looked at. -/
import Derived.Test.YtehokjaojanieaaDoorFmOpMath
namespace Go.Proofs.YtehokjaojanieaaDoor
open Go.RowKit
set_option linter.unusedVariables false
set_option linter.unusedSimpArgs false

/-- No part is longer than memory is. -/
def FmFit (f : Fm) : Prop := ∀ j, (paAt f j).length ≤ 281474976710656
def cntS (f : Fm) (i : Nat) : Nat := i + (f.take i).flatten.length
theorem cnt_step {f : Fm} {i : Nat} (h : i < f.length) : cntS f (i + 1) = cntS f i + 1 + (paAt f i).length := by
  unfold cntS
  rw [flat_take f i h, List.length_append, paAt_lt h]; omega

set_option maxRecDepth 100000 in
set_option maxHeartbeats 8000000 in
theorem lawFew11 (f g : Fm) (A B : Option Addr) (n c m d : Nat) (w : World) (hf : FmAt w (.slice A n c) f) (hg : FmAt w (.slice B m d) g) (hfs : FmFit f) (hgs : FmFit g) :
    Calls Tryd.prog 5 #[.slice A n c, .slice B m d] w fun e w' => ∃ b, e = .returned (.bool b) ∧ (b = true → f.flatten.length + g.flatten.length ≤ 300 ∧ (atomsS [f, g]).length ≤ 9 ∧ f.length + g.length ≤ 300) ∧ Below w.heap.size w w' := by
  have HF := Lib.hid hf
  have HG := Lib.hid hg
  have hf63 := hf.max
  have hg63 := hg.max
  obtain rfl := hf.len
  obtain rfl := hg.len
  have HFs := Lib.hid hfs
  have HGs := Lib.hid hgs
  clear hf hg hfs hgs
  go_enter Tryd.func5, Tryd.ntmps5
  go_wp2_with fail
  go_loopw [5, 10] (fun u v wr => ∃ i : Nat, i ≤ f.length ∧ v = .int .i64 i ∧ u = .int .i64 ((0 + cntS f i : Nat) : Int) ∧ 0 + cntS f i ≤ 300 ∧ w = wr) (fun _ v _ => f.length - (intOf v).toNat)
  case atStart => exact ⟨0, Nat.zero_le _, rfl, by simp [cntS], by simp [cntS], rfl⟩
  case round =>
    obtain ⟨i, hi, rfl, rfl, hle, rfl⟩ := hrel
    by_cases hlt : i < f.length
    · have h1 : (0 : Int) ≤ (i : Int) := by omega
      have h2 : (i : Int) < (f.length : Int) := by omega
      obtain ⟨b, off, A2, c2, rfl, _, q1, hp⟩ := HF.out.at i hlt
      have hps := HFs.out i
      have HSt := Lib.hid (cnt_step hlt)
      obtain ⟨p, hpe⟩ : ∃ p, paAt f i = p := ⟨_, rfl⟩
      rw [hpe] at q1 hps HSt
      obtain ⟨z, hz⟩ : ∃ z, 0 + cntS f i = z := ⟨_, rfl⟩
      have HZ := Lib.hid hz
      rw [hz] at hle ⊢
      clear hp hpe hz
      by_cases hbig : 300 < z + 1 + p.length
      · have hb1 : (300 : Int) < (z : Int) + 1 + (p.length : Int) := by omega
        go_wp2_with fail
        go_ret
        exact ⟨false, rfl, (fun e => by cases e), Below.refl _ _⟩
      · have hb1 : ¬ (300 : Int) < (z : Int) + 1 + (p.length : Int) := by omega
        go_wp2_with fail
        refine ⟨⟨i + 1, by omega, by go_num, by rw [HSt.out]; have := HZ.out; congr 1; omega, by rw [HSt.out]; have := HZ.out; omega, by first | rfl | trivial⟩, by simp [intOf]; omega⟩
    · obtain rfl : i = f.length := by omega
      have HC1 : Hid (cntS f f.length ≤ 300) := Lib.hid (by simpa using hle)
      obtain ⟨zf, hzf⟩ : ∃ zf, cntS f f.length = zf := ⟨_, rfl⟩
      simp only [Nat.zero_add, hzf]
      have hzl : zf ≤ 300 := by rw [← hzf]; exact HC1.out
      have HZf := Lib.hid hzf
      clear hle hzf
      go_wp2_with fail
      go_loopw [5, 26] (fun u v wr => ∃ i : Nat, i ≤ g.length ∧ v = .int .i64 i ∧ u = .int .i64 ((zf + cntS g i : Nat) : Int) ∧ zf + cntS g i ≤ 300 ∧ w = wr) (fun _ v _ => g.length - (intOf v).toNat)
      case atStart => exact ⟨0, Nat.zero_le _, rfl, by simp [cntS], by simp [cntS]; omega, rfl⟩
      case round =>
        obtain ⟨i, hi, rfl, rfl, hle, rfl⟩ := hrel
        by_cases hlt : i < g.length
        · have h1 : (0 : Int) ≤ (i : Int) := by omega
          have h2 : (i : Int) < (g.length : Int) := by omega
          obtain ⟨b, off, A2, c2, rfl, _, q1, hp⟩ := HG.out.at i hlt
          have hps := HGs.out i
          have HSt := Lib.hid (cnt_step hlt)
          obtain ⟨p, hpe⟩ : ∃ p, paAt g i = p := ⟨_, rfl⟩
          rw [hpe] at q1 hps HSt
          obtain ⟨z, hz⟩ : ∃ z, zf + cntS g i = z := ⟨_, rfl⟩
          have HZ := Lib.hid hz
          rw [hz] at hle ⊢
          clear hp hpe hz
          by_cases hbig : 300 < z + 1 + p.length
          · have hb1 : (300 : Int) < (z : Int) + 1 + (p.length : Int) := by omega
            go_wp2_with fail
            go_ret
            exact ⟨false, rfl, (fun e => by cases e), Below.refl _ _⟩
          · have hb1 : ¬ (300 : Int) < (z : Int) + 1 + (p.length : Int) := by omega
            go_wp2_with fail
            refine ⟨⟨i + 1, by omega, by go_num, by rw [HSt.out]; have := HZ.out; congr 1; omega, by rw [HSt.out]; have := HZ.out; omega, by first | rfl | trivial⟩, by simp [intOf]; omega⟩
        · obtain rfl : i = g.length := by omega
          have HC2 : Hid (cntS f f.length + cntS g g.length ≤ 300) := Lib.hid (by rw [HZf.out]; exact hle)
          go_wp2_with fail
          have hfl : f.flatten.length + g.flatten.length ≤ 300 ∧ f.length + g.length ≤ 300 := by
            have := HC2.out
            unfold cntS at this
            rw [List.take_length, List.take_length] at this
            omega
          refine (refAtoms [f, g] (some ⟨w.heap.size, 0, none⟩) 2 2 _ (fs_two HF.out HG.out) (by simp only [List.flatten_cons, List.flatten_nil, List.append_nil, List.flatten_append, List.length_append]; omega)).mono ?_
          rintro e w1 ⟨va, rfl, hza, hb1⟩
          have hia := hza.ints
          obtain ⟨Aa, ca, rfl, _⟩ := id hia
          have ha63 := hia.max
          have HB1 : Hid (Below w.heap.size w w1) := Lib.hid (((Below.refl _ _).alloc (Nat.le_refl _) _).trans (hb1.mono (by simp)))
          clear hza hia hb1
          go_wp2_with fail
          go_ret
          refine ⟨decide (((atomsS [f, g]).length : Int) ≤ 9), rfl, fun e => ⟨hfl.1, by have := of_decide_eq_true e; omega, hfl.2⟩, HB1.out⟩

end Go.Proofs.YtehokjaojanieaaDoor
