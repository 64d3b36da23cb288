/- What the reference's Class answers: the text of a set. -/
import Derived.Test.YtibmcdgnponpmaaDoorProg
import Derived.Test.YtibmcdgnponpmaaDoorRefHas
import Derived.Test.YtibmcdgnponpmaaDoorRefHex
namespace Go.Proofs.YtibmcdgnponpmaaDoor
open Go.RowKit
set_option linter.unusedSimpArgs false
set_option linter.unusedVariables false

/-- The last byte of a range that holds e. -/
def endOf (s : St) : Nat → Nat → Nat
  | 0, e => e
  | f + 1, e => if e < 255 ∧ s.has (e + 1) = true then endOf s f (e + 1) else e
theorem endOf_bounds (s : St) : ∀ (f e : Nat), e ≤ 255 → e ≤ endOf s f e ∧ endOf s f e ≤ 255
  | 0, e, h => ⟨Nat.le_refl _, h⟩
  | f + 1, e, h => by
    unfold endOf
    split
    · have := endOf_bounds s f (e + 1) (by omega); omega
    · exact ⟨Nat.le_refl _, h⟩
theorem endOf_next {s : St} {f e : Nat} (h : e < 255) (hh : s.has (e + 1) = true) : endOf s (f + 1) e = endOf s f (e + 1) := by rw [endOf, if_pos ⟨h, hh⟩]
theorem endOf_stop {s : St} {f e : Nat} (h : ¬ (e < 255 ∧ s.has (e + 1) = true)) : endOf s (f + 1) e = e := by rw [endOf, if_neg h]
def xT (b : Nat) : ByteArray := ⟨#[92, 120]⟩ ++ hexT b
def dxT (b : Nat) : ByteArray := ⟨#[45, 92, 120]⟩ ++ hexT b
def noT : ByteArray := ⟨#[]⟩
/-- The text of the ranges from b on. -/
def clsFrom (s : St) : Nat → Nat → ByteArray
  | 0, _ => noT
  | f + 1, b => if 256 ≤ b then noT else if s.has b = false then clsFrom s f (b + 1)
    else xT b ++ ((if b < endOf s 256 b then dxT (endOf s 256 b) else noT) ++ clsFrom s f (endOf s 256 b + 1))
/-- The text of a set. -/
def clsT (s : St) : ByteArray := ⟨#[91]⟩ ++ clsFrom s 257 0 ++ ⟨#[93]⟩
theorem hexT_size (b : Nat) : (hexT b).size = 2 := rfl
theorem xT_size (b : Nat) : (xT b).size = 4 := by unfold xT; rw [ByteArray.size_append]; rfl
theorem dxT_size (b : Nat) : (dxT b).size = 5 := by unfold dxT; rw [ByteArray.size_append]; rfl
theorem belowN {B : Nat} {W w : World} (h : Below B W w) (n : Nat) : Below B W (w.drewN n) := ⟨h.os, h.tape, h.output, h.size, h.block⟩
theorem no_app (a : ByteArray) : noT ++ a = a := by apply ByteArray.ext; simp [noT, ByteArray.data_append]
theorem app_no (a : ByteArray) : a ++ noT = a := by apply ByteArray.ext; simp [noT, ByteArray.data_append]
theorem app_app (a b c : ByteArray) : a ++ b ++ c = a ++ (b ++ c) := by apply ByteArray.ext; simp [ByteArray.data_append]
theorem cls_end {s : St} {f b : Nat} (h : 256 ≤ b) : clsFrom s f b = noT := by
  cases f with
  | zero => rfl
  | succ f => unfold clsFrom; rw [if_pos h]
theorem cls_no {s : St} {f b : Nat} (h : b < 256) (hh : s.has b = false) : clsFrom s (f + 1) b = clsFrom s f (b + 1) := by rw [clsFrom, if_neg (by omega), if_pos hh]
theorem cls_one {s : St} {f b e : Nat} (h : b < 256) (hh : s.has b = true) (he : endOf s 256 b = e) (hb : ¬ b < e) : clsFrom s (f + 1) b = xT b ++ clsFrom s f (e + 1) := by
  rw [clsFrom, if_neg (by omega), if_neg (by rw [hh]; exact Bool.noConfusion), he, if_neg hb, no_app]
theorem cls_two {s : St} {f b e : Nat} (h : b < 256) (hh : s.has b = true) (he : endOf s 256 b = e) (hb : b < e) : clsFrom s (f + 1) b = xT b ++ (dxT e ++ clsFrom s f (e + 1)) := by
  rw [clsFrom, if_neg (by omega), if_neg (by rw [hh]; exact Bool.noConfusion), he, if_pos hb]

set_option maxRecDepth 100000 in
set_option maxHeartbeats 4000000 in
theorem refClassT (s : St) (hs : s.Ok) (w : World) : Calls Tryd.prog 19 #[.agg #[.int .u64 s.w0, .int .u64 s.w1, .int .u64 s.w2, .int .u64 s.w3]] w fun e w' => e = .returned (.string (clsT s)) ∧ Below w.heap.size w w' := by
  have hHas := fun b (hb : b < 256) v (hv : s.has b = v) W => refHasV s hs b hb v hv W
  have HHas := Lib.hid hHas
  have hz := hexT_size
  obtain ⟨H, hH⟩ : ∃ H : ByteArray, ⟨#[91]⟩ ++ clsFrom s 257 0 = H := ⟨_, rfl⟩
  have HH := Lib.hid hH
  clear hH hHas
  go_enter Tryd.func19, Tryd.ntmps19
  go_wp2_with fail
  go_loopw [3, 4] (fun o i wr => ∃ (b f : Nat) (x : ByteArray), b ≤ 256 ∧ x.size ≤ 1 + 9 * b ∧ 256 < b + f ∧ i = .int .i64 b ∧ o = .string x ∧ Hid (x ++ clsFrom s f b = H) ∧ Hid (SetAt wr w.heap.size 24 s) ∧ Hid (Below w.heap.size w wr)) (fun _ i _ => 256 - (intOf i).toNat)
  case atStart => exact ⟨0, 257, ⟨#[91]⟩, by omega, by decide, by omega, rfl, rfl, HH, Lib.hid (SetAt.new _ _ s), Lib.hid ((Below.refl _ _).alloc (Nat.le_refl _) _)⟩
  case round =>
    obtain ⟨b, f0, x, hb, hxs, hf, rfl, rfl, HX, HA, HB⟩ := hrel
    obtain ⟨f, rfl⟩ : ∃ f, f0 = f + 1 := ⟨f0 - 1, by omega⟩
    by_cases hlt : b < 256
    · have dlt : decide ((b : Int) < 256) = true := decide_eq_true (by omega)
      obtain ⟨x0, x1, x2, x3⟩ := HA.out.cells
      obtain ⟨v, hv⟩ : ∃ v, s.has b = v := ⟨_, rfl⟩
      have HV := Lib.hid hv
      clear hv
      rcases v with _ | _
      · have HX2 : Hid (x ++ clsFrom s f (b + 1) = H) := Lib.hid (by rw [← cls_no hlt HV.out]; exact HX.out)
        go_wp2_with fail
        refine (HHas.out b hlt false HV.out _).mono ?_
        rintro e w1 ⟨rfl, hb1⟩
        have HA1 := Lib.hid (SetAt.below HA.out hb1 HA.out.lt)
        have HB1 := Lib.hid (HB.out.trans (hb1.mono HB.out.size))
        clear hb1
        go_wp2_with fail
        exact ⟨⟨b + 1, f, x, by omega, by omega, by omega, by go_num, rfl, HX2, HA1, HB1⟩, by simp [intOf]; omega⟩
      · obtain ⟨E, hE⟩ : ∃ E, endOf s 256 b = E := ⟨_, rfl⟩
        have hEb := endOf_bounds s 256 b (by omega)
        rw [hE] at hEb
        have HE := Lib.hid hE
        clear hE
        go_wp2_with fail
        refine (HHas.out b hlt true HV.out _).mono ?_
        rintro e w1 ⟨rfl, hb1⟩
        have HA1 := Lib.hid (SetAt.below HA.out hb1 HA.out.lt)
        have HB1 := Lib.hid (HB.out.trans (hb1.mono HB.out.size))
        clear hb1 x0 x1 x2 x3
        go_wp2_with fail
        go_loopw [5] (fun i wr => ∃ (e g : Nat), b ≤ e ∧ e ≤ 255 ∧ 256 ≤ e + g ∧ i = .int .i64 e ∧ Hid (endOf s g e = E) ∧ Hid (SetAt wr w.heap.size 24 s) ∧ Hid (Below w.heap.size w wr)) (fun i _ => 256 - (intOf i).toNat)
        case atStart => exact ⟨b, 256, by omega, by omega, by omega, rfl, HE, HA1, HB1⟩
        case round =>
          obtain ⟨e, g0, hbe, he, hg, rfl, HG, HA2, HB2⟩ := hrel
          obtain ⟨x0, x1, x2, x3⟩ := HA2.out.cells
          by_cases he5 : e < 255
          · have d1 : decide ((e : Int) < 255) = true := decide_eq_true (by omega)
            obtain ⟨g, rfl⟩ : ∃ g, g0 = g + 1 := ⟨g0 - 1, by omega⟩
            obtain ⟨v, hv⟩ : ∃ v, s.has (e + 1) = v := ⟨_, rfl⟩
            have HW := Lib.hid hv
            clear hv
            rcases v with _ | _
            · have HE2 : Hid (endOf s 256 b = e) := Lib.hid (by rw [HE.out, ← HG.out]; rw [endOf_stop]; rintro ⟨_, q⟩; rw [HW.out] at q; cases q)
              by_cases hbE : b < e
              · have d2 : decide ((b : Int) < (e : Int)) = true := decide_eq_true (by omega)
                have HX2 : Hid (x ++ xT b ++ dxT e ++ clsFrom s f (e + 1) = H) := Lib.hid (by rw [app_app, app_app, ← cls_two hlt HV.out HE2.out hbE]; exact HX.out)
                go_wp2_with fail
                refine (HHas.out (e + 1) (by omega) false HW.out _).mono ?_
                rintro e' w2 ⟨rfl, hb2⟩
                have HA3 := Lib.hid (SetAt.below HA2.out hb2 HA2.out.lt)
                have HB3 := Lib.hid (HB2.out.trans (hb2.mono HB2.out.size))
                clear hb2
                go_wp2_with fail
                refine (refHex b hlt _).mono ?_
                rintro e' w3 ⟨rfl, n3, rfl⟩
                go_wp2_with fail
                refine (refHex e (by omega) _).mono ?_
                rintro e' w4 ⟨rfl, n4, rfl⟩
                go_wp2_with fail
                exact ⟨⟨e + 1, f, x ++ xT b ++ dxT e, by omega, by rw [ByteArray.size_append, ByteArray.size_append, xT_size, dxT_size]; omega, by omega, by go_num, rfl, HX2, HA3, Lib.hid (belowN HB3.out _)⟩, by simp [intOf]; omega⟩
              · have d2 : decide ((b : Int) < (e : Int)) = false := decide_eq_false (by omega)
                have HX2 : Hid (x ++ xT b ++ clsFrom s f (e + 1) = H) := Lib.hid (by rw [app_app, ← cls_one hlt HV.out HE2.out hbE]; exact HX.out)
                go_wp2_with fail
                refine (HHas.out (e + 1) (by omega) false HW.out _).mono ?_
                rintro e' w2 ⟨rfl, hb2⟩
                have HA3 := Lib.hid (SetAt.below HA2.out hb2 HA2.out.lt)
                have HB3 := Lib.hid (HB2.out.trans (hb2.mono HB2.out.size))
                clear hb2
                go_wp2_with fail
                refine (refHex b hlt _).mono ?_
                rintro e' w3 ⟨rfl, n3, rfl⟩
                go_wp2_with fail
                exact ⟨⟨e + 1, f, x ++ xT b, by omega, by rw [ByteArray.size_append, xT_size]; omega, by omega, by go_num, rfl, HX2, HA3, Lib.hid (belowN HB3.out _)⟩, by simp [intOf]; omega⟩
            · have HG2 : Hid (endOf s g (e + 1) = E) := Lib.hid (by rw [← endOf_next he5 HW.out]; exact HG.out)
              go_wp2_with fail
              refine (HHas.out (e + 1) (by omega) true HW.out _).mono ?_
              rintro e' w2 ⟨rfl, hb2⟩
              have HA3 := Lib.hid (SetAt.below HA2.out hb2 HA2.out.lt)
              have HB3 := Lib.hid (HB2.out.trans (hb2.mono HB2.out.size))
              clear hb2
              go_wp2_with fail
              exact ⟨⟨e + 1, g, by omega, by omega, by omega, by go_num, HG2, HA3, HB3⟩, by simp [intOf]; omega⟩
          · have d1 : decide ((e : Int) < 255) = false := decide_eq_false (by omega)
            have HE2 : Hid (endOf s 256 b = e) := Lib.hid (by rw [HE.out, ← HG.out]; cases g0 with | zero => rfl | succ g => rw [endOf_stop]; rintro ⟨q, _⟩; exact he5 q)
            by_cases hbE : b < e
            · have d2 : decide ((b : Int) < (e : Int)) = true := decide_eq_true (by omega)
              have HX2 : Hid (x ++ xT b ++ dxT e ++ clsFrom s f (e + 1) = H) := Lib.hid (by rw [app_app, app_app, ← cls_two hlt HV.out HE2.out hbE]; exact HX.out)
              go_wp2_with fail
              refine (refHex b hlt _).mono ?_
              rintro e' w3 ⟨rfl, n3, rfl⟩
              go_wp2_with fail
              refine (refHex e (by omega) _).mono ?_
              rintro e' w4 ⟨rfl, n4, rfl⟩
              go_wp2_with fail
              exact ⟨⟨e + 1, f, x ++ xT b ++ dxT e, by omega, by rw [ByteArray.size_append, ByteArray.size_append, xT_size, dxT_size]; omega, by omega, by go_num, rfl, HX2, HA2, Lib.hid (belowN HB2.out _)⟩, by simp [intOf]; omega⟩
            · have d2 : decide ((b : Int) < (e : Int)) = false := decide_eq_false (by omega)
              have HX2 : Hid (x ++ xT b ++ clsFrom s f (e + 1) = H) := Lib.hid (by rw [app_app, ← cls_one hlt HV.out HE2.out hbE]; exact HX.out)
              go_wp2_with fail
              refine (refHex b hlt _).mono ?_
              rintro e' w3 ⟨rfl, n3, rfl⟩
              go_wp2_with fail
              exact ⟨⟨e + 1, f, x ++ xT b, by omega, by rw [ByteArray.size_append, xT_size]; omega, by omega, by go_num, rfl, HX2, HA2, Lib.hid (belowN HB2.out _)⟩, by simp [intOf]; omega⟩
    · obtain rfl : b = 256 := by omega
      have HX2 : Hid (x ++ ⟨#[93]⟩ = clsT s) := Lib.hid (by unfold clsT; rw [HH.out, ← HX.out, cls_end (Nat.le_refl _), app_no])
      go_wp2_with fail
      go_ret
      exact ⟨by rw [← HX2.out]; rfl, HB.out⟩

end Go.Proofs.YtibmcdgnponpmaaDoor
