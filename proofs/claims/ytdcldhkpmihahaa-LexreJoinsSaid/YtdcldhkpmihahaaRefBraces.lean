/- Words as they are told, and what the reference's braces answers. -/
import Derived.Test.YtdcldhkpmihahaaBounds
import Derived.Test.YtdcldhkpmihahaaLexName
import Derived.Test.YtdcldhkpmihahaaTextG
namespace Go.Proofs.Ytdcldhkpmihahaa
open Go.RowKit
set_option linter.unusedSimpArgs false
set_option linter.unusedVariables false

/-- A word without its place. -/
structure Wd where
  kind : Int
  set : St
  name : ByteArray
  lo : Int
  hi : Int
def wd0 : Wd := ⟨0, emptyC, { data := #[] }, 0, 0⟩
def wdCells (x : Wd) (p : Int) : Array Value := #[.int .i64 x.kind, .int .i64 p, .int .u64 x.set.w0, .int .u64 x.set.w1, .int .u64 x.set.w2, .int .u64 x.set.w3, .string x.name, .int .i64 x.lo, .int .i64 x.hi]
/-- What begins with a { at a place, its } standing at e. -/
def bracesAt (s : ByteArray) (p e : Nat) : Wd × Int :=
  if s.size ≤ e then (wd0, 0)
  else if namedS (s.extract (p + 1) e) = true then (⟨11, emptyC, s.extract (p + 1) e, 0, 0⟩, (e : Int) + 1 - p)
  else match boundsS (s.extract (p + 1) e) with
    | none => (wd0, 0)
    | some (a, b) => (⟨10, emptyC, { data := #[] }, a, b⟩, (e : Int) + 1 - p)
def bracesS (s : ByteArray) (p : Nat) : Wd × Int := bracesAt s p (findS s 125 (s.size + 1) (p + 1))
theorem braces_past {s : ByteArray} {p e : Nat} (h : s.size ≤ e) : bracesAt s p e = (wd0, 0) := by unfold bracesAt; rw [if_pos h]
theorem braces_name {s u : ByteArray} {p e : Nat} (h : ¬ s.size ≤ e) (hu : s.extract (p + 1) e = u) (hn : namedS u = true) : bracesAt s p e = (⟨11, emptyC, u, 0, 0⟩, (e : Int) + 1 - p) := by unfold bracesAt; rw [if_neg h, hu, if_pos hn]
theorem braces_no {s u : ByteArray} {p e : Nat} (h : ¬ s.size ≤ e) (hu : s.extract (p + 1) e = u) (hn : namedS u = false) (hb : boundsS u = none) : bracesAt s p e = (wd0, 0) := by unfold bracesAt; rw [if_neg h, hu, if_neg (by rw [hn]; exact Bool.false_ne_true), hb]
theorem braces_yes {s u : ByteArray} {p e : Nat} {a b : Int} (h : ¬ s.size ≤ e) (hu : s.extract (p + 1) e = u) (hn : namedS u = false) (hb : boundsS u = some (a, b)) : bracesAt s p e = (⟨10, emptyC, { data := #[] }, a, b⟩, (e : Int) + 1 - p) := by unfold bracesAt; rw [if_neg h, hu, if_neg (by rw [hn]; exact Bool.false_ne_true), hb]
theorem extract_all (u : ByteArray) : u.extract 0 u.size = u := by
  apply ByteArray.ext
  rw [ByteArray.data_extract]
  exact Array.extract_size
theorem refNamedV (s : ByteArray) (hs : s.size ≤ 9223372036854775807) (v : Bool) (hv : namedS s = v) (w : World) : Calls Try.prog 36 #[.string s] w fun e w' => e = .returned (.bool v) ∧ w = w' := by
  rw [← hv]; exact refNamed s hs w
theorem refCountV (s : ByteArray) (hs : s.size ≤ 9223372036854775807) (v : Int) (hv : countS s = v) (w : World) : Calls Try.prog 37 #[.string s] w fun e w' => e = .returned (.int .i64 v) ∧ w = w' := by
  rw [← hv]; exact refCount s hs w
theorem txt_word {p : Wd × Int} {x : Wd} {n : Int} (h : p = (x, n)) : Ending.returned (.tuple #[.agg (wdCells x 0), .int .i64 n]) = .returned (.tuple #[.agg (wdCells p.1 0), .int .i64 p.2]) := by rw [h]

set_option maxRecDepth 100000 in
set_option maxHeartbeats 8000000 in
theorem refBraces (s : ByteArray) (p : Nat) (hs : s.size ≤ 20000) (hp : p < s.size) (w : World) :
    Calls Try.prog 21 #[.string s, .int .i64 p] w fun e w' => e = .returned (.tuple #[.agg (wdCells (bracesS s p).1 0), .int .i64 (bracesS s p).2]) ∧ Below w.heap.size w w' := by
  go_enter Try.func21, Try.ntmps21
  go_wp2_with fail
  go_loop [6] (fun i => ∃ (k f : Nat), p + 1 ≤ k ∧ k ≤ s.size ∧ i = .int .i64 k ∧ s.size < k + f ∧ Hid (bracesS s p = bracesAt s p (findS s 125 f k))) (fun i => s.size - (intOf i).toNat)
  case atStart => exact ⟨p + 1, s.size + 1, by omega, by omega, by go_num, by omega, Lib.hid rfl⟩
  case round =>
    obtain ⟨k, f0, hpk, hk, rfl, hf0, HF⟩ := hrel
    obtain ⟨f, rfl⟩ : ∃ f, f0 = f + 1 := ⟨f0 - 1, by omega⟩
    by_cases hlt : k < s.size
    · obtain ⟨b, hb⟩ : ∃ b, (s[k]'hlt).toNat = b := ⟨_, rfl⟩
      have hl : b < 256 := by rw [← hb]; exact UInt8.toNat_lt _
      have HBt : Hid (bt s k = b) := Lib.hid (by rw [← bt_is hlt]; exact hb)
      by_cases hb125 : b = 125
      · have g1 : ((b : Int) == 125) = true := by rw [beq_iff_eq]; omega
        have g2 : (b == 125) = true := by rw [beq_iff_eq]; omega
        have g3 : ((b : Int) != 125) = false := by rw [bne, g1]; rfl
        have g4 : (b != 125) = false := by rw [bne, g2]; rfl
        have HE : Hid (bracesS s p = bracesAt s p k) := Lib.hid (by rw [HF.out, find_here (Or.inr (by rw [HBt.out]; exact hb125))])
        have hke : ¬ s.size ≤ k := by omega
        have dk : decide ((s.size : Int) ≤ (k : Int)) = false := txt_f (by omega)
        have hpk1 : p + 1 ≤ k := hpk
        have hks : k ≤ s.size := by omega
        have hue : (s.extract (p + 1) k).size = k - (p + 1) := sub_size _ _ _ hks
        obtain ⟨u, hu⟩ : ∃ u, s.extract (p + 1) k = u := ⟨_, rfl⟩
        have HUX := Lib.hid hu
        have hus : u.size ≤ 20000 := by rw [← hu, hue]; omega
        have husz : u.size ≤ 9223372036854775807 := by omega
        clear hue
        obtain ⟨v, hv⟩ : ∃ v, namedS u = v := ⟨_, rfl⟩
        have HNM := Lib.hid hv
        clear hv
        rcases v with _ | _
        · go_wp2_with fail
          refine (refNamedV _ husz false HNM.out _).mono ?_
          rintro e w3 ⟨rfl, rfl⟩
          go_wp2_with fail
          go_loop [9] (fun i => ∃ (c f : Nat), c ≤ u.size ∧ i = .int .i64 c ∧ u.size < c + f ∧ Hid (boundsS u = boundsAt u (findS u 44 f c))) (fun i => u.size - (intOf i).toNat)
          case atStart => exact ⟨0, u.size + 1, Nat.zero_le _, rfl, by omega, Lib.hid rfl⟩
          case round =>
            obtain ⟨c, f0, hcu, rfl, hf0, HF⟩ := hrel
            obtain ⟨f, rfl⟩ : ∃ f, f0 = f + 1 := ⟨f0 - 1, by omega⟩
            by_cases hlt2 : c < u.size
            · obtain ⟨b, hb⟩ : ∃ b, (u[c]'hlt2).toNat = b := ⟨_, rfl⟩
              have hl : b < 256 := by rw [← hb]; exact UInt8.toNat_lt _
              have HBt : Hid (bt u c = b) := Lib.hid (by rw [← bt_is hlt2]; exact hb)
              by_cases hb44 : b = 44
              · have HBS : Hid (boundsS u = boundsAt u c) := Lib.hid (by rw [HF.out, find_here (Or.inr (by rw [HBt.out]; exact hb44))])
                have g1 : ((b : Int) == 44) = true := by rw [beq_iff_eq]; omega
                have g2 : (b == 44) = true := by rw [beq_iff_eq]; omega
                have g3 : ((b : Int) != 44) = false := by rw [bne, g1]; rfl
                have g4 : (b != 44) = false := by rw [bne, g2]; rfl
                have h1 : c < u.size := hlt2
                have hsz1 : (u.extract 0 c).size ≤ 9223372036854775807 := by rw [sub_size _ _ _ (by omega)]; omega
                have hin1 : c ≤ u.size := by omega
                have dc : decide ((c : Int) < (u.size : Int)) = true := txt_t (by omega)
                obtain ⟨x, hx⟩ : ∃ x, countS (u.extract 0 c) = x := ⟨_, rfl⟩
                have HX := Lib.hid hx
                clear hx
                by_cases h2 : c + 1 < u.size
                · have d2 : decide ((c : Int) + 1 < (u.size : Int)) = true := txt_t (by omega)
                  have hin2 : c + 1 ≤ u.size := by omega
                  have hsz2 : (u.extract (c + 1) u.size).size ≤ 9223372036854775807 := by rw [drop_size]; omega
                  obtain ⟨y, hy⟩ : ∃ y, countS (u.extract (c + 1) u.size) = y := ⟨_, rfl⟩
                  have HY := Lib.hid hy
                  clear hy
                  by_cases hy0 : y < 0
                  · have dhy0 := txt_t hy0
                    have HV : Hid (bracesS s p = (wd0, 0)) := Lib.hid (by rw [HE.out]; exact braces_no hke HUX.out HNM.out (by rw [HBS.out]; unfold boundsAt; rw [if_pos h1, if_pos h2, HX.out, HY.out, if_pos (by omega)]))
                    go_wp2_with fail
                    refine (refCountV _ hsz1 x HX.out _).mono ?_
                    rintro e w3 ⟨rfl, rfl⟩
                    go_wp2_with fail
                    refine (refCountV _ hsz2 y HY.out _).mono ?_
                    rintro e w3 ⟨rfl, rfl⟩
                    go_wp2_with fail
                    refine bodyPost_ret (v := .tuple #[.agg (wdCells wd0 0), .int .i64 (0)]) (by simp [results, Try.results21, go_sem, wdCells, wd0, emptyC]) rfl ⟨txt_word HV.out, ?_⟩
                    repeat (first | exact Below.refl _ _ | refine Below.drew ?_ | refine Below.alloc ?_ (by simp; try omega) _)
                  · have dhy0 := txt_f hy0
                    by_cases hx0 : x < 0
                    · have dhx0 := txt_t hx0
                      have HV : Hid (bracesS s p = (wd0, 0)) := Lib.hid (by rw [HE.out]; exact braces_no hke HUX.out HNM.out (by rw [HBS.out]; unfold boundsAt; rw [if_pos h1, if_pos h2, HX.out, HY.out, if_pos (by omega)]))
                      go_wp2_with fail
                      refine (refCountV _ hsz1 x HX.out _).mono ?_
                      rintro e w3 ⟨rfl, rfl⟩
                      go_wp2_with fail
                      refine (refCountV _ hsz2 y HY.out _).mono ?_
                      rintro e w3 ⟨rfl, rfl⟩
                      go_wp2_with fail
                      refine bodyPost_ret (v := .tuple #[.agg (wdCells wd0 0), .int .i64 (0)]) (by simp [results, Try.results21, go_sem, wdCells, wd0, emptyC]) rfl ⟨txt_word HV.out, ?_⟩
                      repeat (first | exact Below.refl _ _ | refine Below.drew ?_ | refine Below.alloc ?_ (by simp; try omega) _)
                    · have dhx0 := txt_f hx0
                      by_cases hye : y = 0
                      · have dhye : (y == 0) = true := by rw [beq_iff_eq]; exact hye
                        have HV : Hid (bracesS s p = (wd0, 0)) := Lib.hid (by rw [HE.out]; exact braces_no hke HUX.out HNM.out (by rw [HBS.out]; unfold boundsAt; rw [if_pos h1, if_pos h2, HX.out, HY.out, if_pos (by omega)]))
                        go_wp2_with fail
                        refine (refCountV _ hsz1 x HX.out _).mono ?_
                        rintro e w3 ⟨rfl, rfl⟩
                        go_wp2_with fail
                        refine (refCountV _ hsz2 y HY.out _).mono ?_
                        rintro e w3 ⟨rfl, rfl⟩
                        go_wp2_with fail
                        refine bodyPost_ret (v := .tuple #[.agg (wdCells wd0 0), .int .i64 (0)]) (by simp [results, Try.results21, go_sem, wdCells, wd0, emptyC]) rfl ⟨txt_word HV.out, ?_⟩
                        repeat (first | exact Below.refl _ _ | refine Below.drew ?_ | refine Below.alloc ?_ (by simp; try omega) _)
                      · have dhye : (y == 0) = false := beq_eq_false_iff_ne.2 hye
                        have hyp : 0 < y := by omega
                        have dyp := txt_t hyp
                        by_cases hyx : y < x
                        · have dhyx := txt_t hyx
                          have HV : Hid (bracesS s p = (wd0, 0)) := Lib.hid (by rw [HE.out]; exact braces_no hke HUX.out HNM.out (by rw [HBS.out]; unfold boundsAt; rw [if_pos h1, if_pos h2, HX.out, HY.out, if_pos (by omega)]))
                          go_wp2_with fail
                          refine (refCountV _ hsz1 x HX.out _).mono ?_
                          rintro e w3 ⟨rfl, rfl⟩
                          go_wp2_with fail
                          refine (refCountV _ hsz2 y HY.out _).mono ?_
                          rintro e w3 ⟨rfl, rfl⟩
                          go_wp2_with fail
                          refine bodyPost_ret (v := .tuple #[.agg (wdCells wd0 0), .int .i64 (0)]) (by simp [results, Try.results21, go_sem, wdCells, wd0, emptyC]) rfl ⟨txt_word HV.out, ?_⟩
                          repeat (first | exact Below.refl _ _ | refine Below.drew ?_ | refine Below.alloc ?_ (by simp; try omega) _)
                        · have dhyx := txt_f hyx
                          have HV : Hid (bracesS s p = (⟨10, emptyC, { data := #[] }, x, y⟩, (k : Int) + 1 - p)) := Lib.hid (by rw [HE.out]; exact braces_yes hke HUX.out HNM.out (by rw [HBS.out]; unfold boundsAt; rw [if_pos h1, if_pos h2, HX.out, HY.out, if_neg (by omega)]))
                          go_wp2_with fail
                          refine (refCountV _ hsz1 x HX.out _).mono ?_
                          rintro e w3 ⟨rfl, rfl⟩
                          go_wp2_with fail
                          refine (refCountV _ hsz2 y HY.out _).mono ?_
                          rintro e w3 ⟨rfl, rfl⟩
                          go_wp2_with fail
                          refine bodyPost_ret (v := .tuple #[.agg (wdCells ⟨10, emptyC, { data := #[] }, x, y⟩ 0), .int .i64 ((k : Int) + 1 - p)]) (by simp [results, Try.results21, go_sem, wdCells, wd0, emptyC]) rfl ⟨txt_word HV.out, ?_⟩
                          repeat (first | exact Below.refl _ _ | refine Below.drew ?_ | refine Below.alloc ?_ (by simp; try omega) _)
                · have d2 : decide ((c : Int) + 1 < (u.size : Int)) = false := txt_f (by omega)
                  by_cases hx0 : x < 0
                  · have dhx0 := txt_t hx0
                    have HV : Hid (bracesS s p = (wd0, 0)) := Lib.hid (by rw [HE.out]; exact braces_no hke HUX.out HNM.out (by rw [HBS.out]; unfold boundsAt; rw [if_pos h1, if_neg h2, HX.out, if_pos hx0]))
                    go_wp2_with fail
                    refine (refCountV _ hsz1 x HX.out _).mono ?_
                    rintro e w3 ⟨rfl, rfl⟩
                    go_wp2_with fail
                    refine bodyPost_ret (v := .tuple #[.agg (wdCells wd0 0), .int .i64 (0)]) (by simp [results, Try.results21, go_sem, wdCells, wd0, emptyC]) rfl ⟨txt_word HV.out, ?_⟩
                    repeat (first | exact Below.refl _ _ | refine Below.drew ?_ | refine Below.alloc ?_ (by simp; try omega) _)
                  · have dhx0 := txt_f hx0
                    have HV : Hid (bracesS s p = (⟨10, emptyC, { data := #[] }, x, -1⟩, (k : Int) + 1 - p)) := Lib.hid (by rw [HE.out]; exact braces_yes hke HUX.out HNM.out (by rw [HBS.out]; unfold boundsAt; rw [if_pos h1, if_neg h2, HX.out, if_neg hx0]))
                    go_wp2_with fail
                    refine (refCountV _ hsz1 x HX.out _).mono ?_
                    rintro e w3 ⟨rfl, rfl⟩
                    go_wp2_with fail
                    refine bodyPost_ret (v := .tuple #[.agg (wdCells ⟨10, emptyC, { data := #[] }, x, -1⟩ 0), .int .i64 ((k : Int) + 1 - p)]) (by simp [results, Try.results21, go_sem, wdCells, wd0, emptyC]) rfl ⟨txt_word HV.out, ?_⟩
                    repeat (first | exact Below.refl _ _ | refine Below.drew ?_ | refine Below.alloc ?_ (by simp; try omega) _)
              · have HF2 : Hid (boundsS u = boundsAt u (findS u 44 f (c + 1))) := Lib.hid (by rw [HF.out, find_next (by rw [HBt.out]; omega)])
                have g1 : ((b : Int) == 44) = false := beq_eq_false_iff_ne.2 (by omega)
                have g2 : (b == 44) = false := beq_eq_false_iff_ne.2 (by omega)
                have g3 : ((b : Int) != 44) = true := by rw [bne, g1]; rfl
                have g4 : (b != 44) = true := by rw [bne, g2]; rfl
                go_wp2
                go_round
                case rel => exact ⟨c + 1, f, by omega, by go_num, by omega, HF2⟩
                case measure => simp [intOf]; omega
            · have HBS : Hid (boundsS u = boundsAt u c) := Lib.hid (by rw [HF.out, find_here (Or.inl (by omega))])
              have h1 : ¬ c < u.size := hlt2
              have hcu : c = u.size := by omega
              have hsz1 : (u.extract 0 c).size ≤ 9223372036854775807 := by rw [sub_size _ _ _ (by omega)]; omega
              have hin1 : c ≤ u.size := by omega
              have dc : decide ((c : Int) < (u.size : Int)) = false := txt_f (by omega)
              obtain ⟨x, hx⟩ : ∃ x, countS (u.extract 0 c) = x := ⟨_, rfl⟩
              have HX := Lib.hid hx
              have HXU : Hid (countS u = x) := Lib.hid (by rw [← hx, hcu, extract_all])
              clear hx hcu
              by_cases hx0 : x < 0
              · have dhx0 := txt_t hx0
                have HV : Hid (bracesS s p = (wd0, 0)) := Lib.hid (by rw [HE.out]; exact braces_no hke HUX.out HNM.out (by rw [HBS.out]; unfold boundsAt; rw [if_neg h1, HXU.out, if_pos (by omega)]))
                go_wp2_with fail
                refine (refCountV _ hsz1 x HX.out _).mono ?_
                rintro e w3 ⟨rfl, rfl⟩
                go_wp2_with fail
                refine bodyPost_ret (v := .tuple #[.agg (wdCells wd0 0), .int .i64 (0)]) (by simp [results, Try.results21, go_sem, wdCells, wd0, emptyC]) rfl ⟨txt_word HV.out, ?_⟩
                repeat (first | exact Below.refl _ _ | refine Below.drew ?_ | refine Below.alloc ?_ (by simp; try omega) _)
              · have dhx0 := txt_f hx0
                by_cases hxe : x = 0
                · have dhxe : (x == 0) = true := by rw [beq_iff_eq]; exact hxe
                  have HV : Hid (bracesS s p = (wd0, 0)) := Lib.hid (by rw [HE.out]; exact braces_no hke HUX.out HNM.out (by rw [HBS.out]; unfold boundsAt; rw [if_neg h1, HXU.out, if_pos (by omega)]))
                  go_wp2_with fail
                  refine (refCountV _ hsz1 x HX.out _).mono ?_
                  rintro e w3 ⟨rfl, rfl⟩
                  go_wp2_with fail
                  refine bodyPost_ret (v := .tuple #[.agg (wdCells wd0 0), .int .i64 (0)]) (by simp [results, Try.results21, go_sem, wdCells, wd0, emptyC]) rfl ⟨txt_word HV.out, ?_⟩
                  repeat (first | exact Below.refl _ _ | refine Below.drew ?_ | refine Below.alloc ?_ (by simp; try omega) _)
                · have dhxe : (x == 0) = false := beq_eq_false_iff_ne.2 hxe
                  have hxp : 0 < x := by omega
                  have dxp := txt_t hxp
                  have dxx : decide (x < x) = false := txt_f (by omega)
                  have HV : Hid (bracesS s p = (⟨10, emptyC, { data := #[] }, x, x⟩, (k : Int) + 1 - p)) := Lib.hid (by rw [HE.out]; exact braces_yes hke HUX.out HNM.out (by rw [HBS.out]; unfold boundsAt; rw [if_neg h1, HXU.out, if_neg (by omega)]))
                  go_wp2_with fail
                  refine (refCountV _ hsz1 x HX.out _).mono ?_
                  rintro e w3 ⟨rfl, rfl⟩
                  go_wp2_with fail
                  refine bodyPost_ret (v := .tuple #[.agg (wdCells ⟨10, emptyC, { data := #[] }, x, x⟩ 0), .int .i64 ((k : Int) + 1 - p)]) (by simp [results, Try.results21, go_sem, wdCells, wd0, emptyC]) rfl ⟨txt_word HV.out, ?_⟩
                  repeat (first | exact Below.refl _ _ | refine Below.drew ?_ | refine Below.alloc ?_ (by simp; try omega) _)
        · have HV : Hid (bracesS s p = (⟨11, emptyC, u, 0, 0⟩, (k : Int) + 1 - p)) := Lib.hid (by rw [HE.out]; exact braces_name hke HUX.out HNM.out)
          go_wp2_with fail
          refine (refNamedV _ husz true HNM.out _).mono ?_
          rintro e w3 ⟨rfl, rfl⟩
          go_wp2_with fail
          refine bodyPost_ret (v := .tuple #[.agg (wdCells ⟨11, emptyC, u, 0, 0⟩ 0), .int .i64 ((k : Int) + 1 - p)]) (by simp [results, Try.results21, go_sem, wdCells, wd0, emptyC]) rfl ⟨txt_word HV.out, ?_⟩
          repeat (first | exact Below.refl _ _ | refine Below.drew ?_ | refine Below.alloc ?_ (by simp; try omega) _)
      · have HF2 : Hid (bracesS s p = bracesAt s p (findS s 125 f (k + 1))) := Lib.hid (by rw [HF.out, find_next (by rw [HBt.out]; omega)])
        have g1 : ((b : Int) == 125) = false := beq_eq_false_iff_ne.2 (by omega)
        have g2 : (b == 125) = false := beq_eq_false_iff_ne.2 (by omega)
        have g3 : ((b : Int) != 125) = true := by rw [bne, g1]; rfl
        have g4 : (b != 125) = true := by rw [bne, g2]; rfl
        go_wp2
        go_round
        case rel => exact ⟨k + 1, f, by omega, by omega, by go_num, by omega, HF2⟩
        case measure => simp [intOf]; omega
    · have HV : Hid (bracesS s p = (wd0, 0)) := Lib.hid (by rw [HF.out, find_here (Or.inl (by omega))]; exact braces_past (by omega))
      have dk : decide ((s.size : Int) ≤ (k : Int)) = true := txt_t (by omega)
      go_wp2_with fail
      refine bodyPost_ret (v := .tuple #[.agg (wdCells wd0 0), .int .i64 (0)]) (by simp [results, Try.results21, go_sem, wdCells, wd0, emptyC]) rfl ⟨txt_word HV.out, ?_⟩
      repeat (first | exact Below.refl _ _ | refine Below.drew ?_ | refine Below.alloc ?_ (by simp; try omega) _)
end Go.Proofs.Ytdcldhkpmihahaa
