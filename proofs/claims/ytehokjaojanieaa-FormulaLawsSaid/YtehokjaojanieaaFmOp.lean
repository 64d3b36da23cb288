/- bolterref09.Op: or, and, dual. -/
import Derived.Test.YtehokjaojanieaaFmAtoms
import Derived.Deep.OwnRows
namespace Go.Proofs.Ytehokjaojanieaa
open Go.RowKit
set_option linter.unusedVariables false
set_option linter.unusedSimpArgs false

def opHf (op : Nat) (f g : Fm) (l : List Int) (N : Nat) (b : Nat) : Bool :=
  if op = 0 then holdsS f (chosenS l b) || holdsS g (chosenS l b) else if op = 1 then holdsS f (chosenS l b) && holdsS g (chosenS l b) else !holdsS f (chosenS l (N - 1 - b))
def opAtoms (op : Nat) (f g : Fm) : List Int := if op = 2 then atomsS [f] else atomsS [f, g]
/-- What the reference answers. -/
def opS (op : Nat) (f g : Fm) : Fm := makeTo (opAtoms op f g) (opHf op f g (opAtoms op f g) (2 ^ (opAtoms op f g).length)) (2 ^ (opAtoms op f g).length)
theorem fs_one {w : World} {u : Value} {f : Fm} {T : TypeId} (h : FmAt w u f) : FsAt (w.alloc (.cells #[u] T)) (.slice (some ⟨w.heap.size, 0, none⟩) 1 1) [f] := by
  refine ⟨_, _, rfl, Nat.le_refl _, by omega, fun _ => ⟨w.heap.size, 0, rfl, by simp, fun j hj => ?_⟩⟩
  obtain rfl : j = 0 := by simpa using hj
  refine ⟨u, ?_, h.next ((Below.refl _ _).alloc (Nat.le_refl _) _)⟩
  have := (At.new w T #[u]).cell 0
  simp
theorem fs_two {w : World} {u v : Value} {f g : Fm} {T : TypeId} (h : FmAt w u f) (h' : FmAt w v g) : FsAt (w.alloc (.cells #[u, v] T)) (.slice (some ⟨w.heap.size, 0, none⟩) 2 2) [f, g] := by
  refine ⟨_, _, rfl, Nat.le_refl _, by omega, fun _ => ⟨w.heap.size, 0, rfl, by simp, fun j hj => ?_⟩⟩
  have hb : Below w.heap.size w (w.alloc (.cells #[u, v] T)) := (Below.refl _ _).alloc (Nat.le_refl _) _
  have hj2 : j < 2 := hj
  match j, hj2 with
  | 0, _ => exact ⟨u, by have := (At.new w T #[u, v]).cell 0; simp, h.next hb⟩
  | 1, _ => exact ⟨v, by have := (At.new w T #[u, v]).cell 1; simp, h'.next hb⟩
/-- Bools, as far as they are filled. -/
def brow (N : Nat) (h : Nat → Bool) (i : Nat) : Array Value := arr N (fun k => .bool (if k < i then h k else false))
theorem brow_zero (N : Nat) (h : Nat → Bool) : brow N h 0 = madeCells #[.bool false] N := by
  unfold brow arr madeCells
  apply Array.ext_getElem?
  intro i
  by_cases hi : i < N
  · simp [hi, Nat.mod_one]
  · simp [hi]
theorem brow_set (N : Nat) (h : Nat → Bool) (i : Nat) (v : Bool) (hv : h i = v) : (brow N h i).setIfInBounds i (.bool v) = brow N h (i + 1) := by
  unfold brow
  rw [arr_set]
  apply arr_congr
  intro k hk
  by_cases e : k = i
  · subst e
    rw [if_pos rfl, if_pos (by omega), hv]
  · rw [if_neg e]
    by_cases c : k < i
    · rw [if_pos c, if_pos (by omega)]
    · rw [if_neg c, if_neg (by omega)]
theorem info_boolO : (Try.prog.info? 4).map (fun i => (i.zero, i.size, i.bytes)) = some (some (.bool false), 1, 1) := by kernel_rfl
theorem make_congr (l : List Int) {h h' : Nat → Bool} : ∀ {N : Nat}, (∀ b, h b = h' b) → makeTo l h N = makeTo l h' N := fun e => by rw [funext e]

set_option maxRecDepth 100000 in
set_option maxHeartbeats 16000000 in
theorem refOp0 (f g : Fm) (Af Ag : Option Addr) (nf cf ng cg : Nat) (w : World) (hf : FmAt w (.slice Af nf cf) f) (hg : FmAt w (.slice Ag ng cg) g) (hln : f.flatten.length + g.flatten.length ≤ 1000000) (hm : (atomsS [f, g]).length ≤ 20) :
    Calls Try.prog 13 #[.slice Af nf cf, .slice Ag ng cg, .int .i64 0] w fun e w' => ∃ v, e = .returned v ∧ FmAt w' v (opS 0 f g) ∧ Below w.heap.size w w' := by
  have HF := Lib.hid hf
  have HG := Lib.hid hg
  have hf63 := hf.max
  have hg63 := hg.max
  obtain rfl := hf.len
  obtain rfl := hg.len
  have HLn := Lib.hid (show f.flatten.length ≤ 1000000 by omega)
  have HLb := Lib.hid hln
  clear hf hg hln
  go_enter Try.func13, Try.ntmps13
  go_wp2_with fail
  refine (refAtoms [f, g] (some ⟨w.heap.size, 0, none⟩) 2 2 _ (fs_two HF.out HG.out) (by have := HLb.out; simp only [List.flatten_cons, List.flatten_nil, List.append_nil, List.flatten_append, List.length_append]; omega)).mono ?_
  rintro e w1 ⟨va1, rfl, hza1, hb1⟩
  have HB1 : Hid (Below w.heap.size w w1) := Lib.hid (((Below.refl _ _).alloc (Nat.le_refl _) _).trans (hb1.mono (by simp)))
  clear hb1
  obtain ⟨w2, hw2⟩ : ∃ w2, w2 = w1 := ⟨_, rfl⟩
  have HB2 := HB1
  have hza := hza1
  rw [← hw2] at HB2 hza ⊢
  clear hw2
  obtain ⟨l, hle⟩ : ∃ l, atomsS [f, g] = l := ⟨_, rfl⟩
  rw [hle] at hza hm
  have HLi : Hid (IntsAt w2 _ l) := Lib.hid hza.ints
  obtain ⟨Al, cl, rfl, _⟩ := id hza.ints
  have HLi : Hid (IntsAt w2 (.slice Al l.length cl) l) := Lib.hid hza.ints
  obtain ⟨N, hN⟩ : ∃ N, N = 2 ^ l.length := ⟨_, rfl⟩
  have HN := Lib.hid hN
  have HOS : Hid (opS 0 f g = makeTo l (opHf 0 f g l N) N) := Lib.hid (by
    have e : opAtoms 0 f g = l := by unfold opAtoms; rw [if_neg (by omega)]; exact hle
    unfold opS
    rw [e, hN])
  have hNs : N ≤ 1048576 := by rw [hN]; exact Nat.pow_le_pow_right (by omega) hm
  have hN0 : 0 < N := by rw [hN]; exact Nat.two_pow_pos _
  have e0 := pow_i64 l.length (by omega)
  rw [← hN] at e0
  clear hza hle hN
  have hm1 := run_make_row' (P := Try.prog) 59 4 (.bool false) 1 Try.underlying59 info_boolO rfl .i64 .i64 N (by omega) (by omega)
  rw [← brow_zero N (opHf 0 f g l N)] at hm1
  go_wp2_with fail
  rw [e0]
  clear hm1 e0
  obtain ⟨gw, hgw⟩ : ∃ gw, gw = w2.heap.size := ⟨_, rfl⟩
  have HGw := Lib.hid hgw
  have HT0 : Hid (At (w2.alloc (Obj.cells (brow N (opHf 0 f g l N) 0) 4)) gw 4 (brow N (opHf 0 f g l N) 0)) := by rw [hgw]; exact Lib.hid (At.new _ _ _)
  have HBa := Lib.hid (HB2.out.alloc HB2.out.size (Obj.cells (brow N (opHf 0 f g l N) 0) 4))
  rw [← hgw]
  clear hgw
  have hBw : w.heap.size ≤ w2.heap.size := HB2.out.size
  have HF2 := Lib.hid (HF.out.next HB2.out)
  have HG2 := Lib.hid (HG.out.next HB2.out)
  go_loopw [28] (fun x wr => ∃ b : Nat, b ≤ N ∧ x = .int .i64 b ∧ Hid (At wr gw 4 (brow N (opHf 0 f g l N) b)) ∧ Hid (Below w2.heap.size w2 wr)) (fun x _ => N - (intOf x).toNat)
  case atStart => exact ⟨0, Nat.zero_le _, rfl, HT0, Lib.hid ((Below.refl _ _).alloc (Nat.le_refl _) _)⟩
  case round =>
    clear HT0 HBa
    obtain ⟨b, hb, rfl, HT, HB⟩ := hrel
    by_cases hbN : b < N
    · have h1 : (0 : Int) ≤ (b : Int) := by omega
      have h2 : (b : Int) < (N : Int) := by omega
      go_wp2_with fail
      refine (refChosen l Al l.length cl b _ (HLi.out.next HB.out) (by omega) (by omega)).mono ?_
      rintro e w5 ⟨v5, rfl, hp5, hb5⟩
      obtain ⟨A5, c5, rfl, _⟩ := id hp5
      have HP5 := Lib.hid hp5
      have HB5 := Lib.hid (HB.out.trans (hb5.mono HB.out.size))
      have HT5 := Lib.hid (HT.out.below hb5 HT.out.lt)
      clear hp5 hb5
      have HP6 := HP5
      have HB6 := HB5
      have HT6 := HT5
      go_wp2_with fail
      refine (refHolds9 f (chosenS l b) Af A5 _ cf _ c5 _ (HF2.out.next HB6.out) HP6.out).mono ?_
      rintro e w7 ⟨rfl, rfl⟩
      obtain ⟨bv, hbv⟩ : ∃ b', holdsS f (chosenS l b) = b' := ⟨_, rfl⟩
      rw [hbv]
      have HBv := Lib.hid hbv
      clear hbv
      cases bv
      · go_wp2_with fail
        refine (refHolds9 g (chosenS l b) Ag A5 _ cg _ c5 _ (HG2.out.next HB6.out) HP6.out).mono ?_
        rintro e w8 ⟨rfl, rfl⟩
        obtain ⟨bw, hbw⟩ : ∃ b', holdsS g (chosenS l b) = b' := ⟨_, rfl⟩
        rw [hbw]
        have HV : Hid (opHf 0 f g l N b = bw) := Lib.hid (by unfold opHf; rw [if_pos rfl, HBv.out, hbw]; rfl)
        clear hbw
        have q2 := HT6.out.cell b
        have q3 := HT6.out.free b
        unfold brow at q2
        rw [arr_get _ _ b hbN] at q2
        go_wp2_with fail
        go_roundw
        case rel => exact ⟨b + 1, by omega, by go_num, Lib.hid (by rw [← brow_set N _ b bw HV.out]; exact HT6.out.set b (.bool bw)), Lib.hid (HB6.out.setCell (by have := HGw.out; dsimp only; omega) _)⟩
        case measure => simp [intOf]; omega
      · have HV : Hid (opHf 0 f g l N b = true) := Lib.hid (by unfold opHf; rw [if_pos rfl, HBv.out]; rfl)
        have q2 := HT6.out.cell b
        have q3 := HT6.out.free b
        unfold brow at q2
        rw [arr_get _ _ b hbN] at q2
        go_wp2_with fail
        go_roundw
        case rel => exact ⟨b + 1, by omega, by go_num, Lib.hid (by rw [← brow_set N _ b true HV.out]; exact HT6.out.set b (.bool true)), Lib.hid (HB6.out.setCell (by have := HGw.out; dsimp only; omega) _)⟩
        case measure => simp [intOf]; omega
    · obtain rfl : b = N := by omega
      have h1 : ¬ (b : Int) < (b : Int) := by omega
      go_wp2_with fail
      refine (refMake l (opHf 0 f g l b) Al l.length cl gw b b _ (HLi.out.next HB.out) (by omega) HN.out ⟨HT.out.lt, fun j hj => ?_⟩).mono ?_
      · have := HT.out.cell j
        unfold brow at this
        rw [arr_get _ _ j hj, if_pos hj] at this
        exact this
      rintro e w9 ⟨v9, rfl, hf9, hb9⟩
      go_wp2_with fail
      go_ret
      refine ⟨v9, rfl, ?_, HB2.out.trans ((HB.out.trans (hb9.mono HB.out.size)).mono HB2.out.size)⟩
      rw [HOS.out]
      exact hf9

set_option maxRecDepth 100000 in
set_option maxHeartbeats 16000000 in
theorem refOp1 (f g : Fm) (Af Ag : Option Addr) (nf cf ng cg : Nat) (w : World) (hf : FmAt w (.slice Af nf cf) f) (hg : FmAt w (.slice Ag ng cg) g) (hln : f.flatten.length + g.flatten.length ≤ 1000000) (hm : (atomsS [f, g]).length ≤ 20) :
    Calls Try.prog 13 #[.slice Af nf cf, .slice Ag ng cg, .int .i64 1] w fun e w' => ∃ v, e = .returned v ∧ FmAt w' v (opS 1 f g) ∧ Below w.heap.size w w' := by
  have HF := Lib.hid hf
  have HG := Lib.hid hg
  have hf63 := hf.max
  have hg63 := hg.max
  obtain rfl := hf.len
  obtain rfl := hg.len
  have HLn := Lib.hid (show f.flatten.length ≤ 1000000 by omega)
  have HLb := Lib.hid hln
  clear hf hg hln
  go_enter Try.func13, Try.ntmps13
  go_wp2_with fail
  refine (refAtoms [f, g] (some ⟨w.heap.size, 0, none⟩) 2 2 _ (fs_two HF.out HG.out) (by have := HLb.out; simp only [List.flatten_cons, List.flatten_nil, List.append_nil, List.flatten_append, List.length_append]; omega)).mono ?_
  rintro e w1 ⟨va1, rfl, hza1, hb1⟩
  have HB1 : Hid (Below w.heap.size w w1) := Lib.hid (((Below.refl _ _).alloc (Nat.le_refl _) _).trans (hb1.mono (by simp)))
  clear hb1
  obtain ⟨w2, hw2⟩ : ∃ w2, w2 = w1 := ⟨_, rfl⟩
  have HB2 := HB1
  have hza := hza1
  rw [← hw2] at HB2 hza ⊢
  clear hw2
  obtain ⟨l, hle⟩ : ∃ l, atomsS [f, g] = l := ⟨_, rfl⟩
  rw [hle] at hza hm
  have HLi : Hid (IntsAt w2 _ l) := Lib.hid hza.ints
  obtain ⟨Al, cl, rfl, _⟩ := id hza.ints
  have HLi : Hid (IntsAt w2 (.slice Al l.length cl) l) := Lib.hid hza.ints
  obtain ⟨N, hN⟩ : ∃ N, N = 2 ^ l.length := ⟨_, rfl⟩
  have HN := Lib.hid hN
  have HOS : Hid (opS 1 f g = makeTo l (opHf 1 f g l N) N) := Lib.hid (by
    have e : opAtoms 1 f g = l := by unfold opAtoms; rw [if_neg (by omega)]; exact hle
    unfold opS
    rw [e, hN])
  have hNs : N ≤ 1048576 := by rw [hN]; exact Nat.pow_le_pow_right (by omega) hm
  have hN0 : 0 < N := by rw [hN]; exact Nat.two_pow_pos _
  have e0 := pow_i64 l.length (by omega)
  rw [← hN] at e0
  clear hza hle hN
  have hm1 := run_make_row' (P := Try.prog) 59 4 (.bool false) 1 Try.underlying59 info_boolO rfl .i64 .i64 N (by omega) (by omega)
  rw [← brow_zero N (opHf 1 f g l N)] at hm1
  go_wp2_with fail
  rw [e0]
  clear hm1 e0
  obtain ⟨gw, hgw⟩ : ∃ gw, gw = w2.heap.size := ⟨_, rfl⟩
  have HGw := Lib.hid hgw
  have HT0 : Hid (At (w2.alloc (Obj.cells (brow N (opHf 1 f g l N) 0) 4)) gw 4 (brow N (opHf 1 f g l N) 0)) := by rw [hgw]; exact Lib.hid (At.new _ _ _)
  have HBa := Lib.hid (HB2.out.alloc HB2.out.size (Obj.cells (brow N (opHf 1 f g l N) 0) 4))
  rw [← hgw]
  clear hgw
  have hBw : w.heap.size ≤ w2.heap.size := HB2.out.size
  have HF2 := Lib.hid (HF.out.next HB2.out)
  have HG2 := Lib.hid (HG.out.next HB2.out)
  go_loopw [28] (fun x wr => ∃ b : Nat, b ≤ N ∧ x = .int .i64 b ∧ Hid (At wr gw 4 (brow N (opHf 1 f g l N) b)) ∧ Hid (Below w2.heap.size w2 wr)) (fun x _ => N - (intOf x).toNat)
  case atStart => exact ⟨0, Nat.zero_le _, rfl, HT0, Lib.hid ((Below.refl _ _).alloc (Nat.le_refl _) _)⟩
  case round =>
    clear HT0 HBa
    obtain ⟨b, hb, rfl, HT, HB⟩ := hrel
    by_cases hbN : b < N
    · have h1 : (0 : Int) ≤ (b : Int) := by omega
      have h2 : (b : Int) < (N : Int) := by omega
      go_wp2_with fail
      refine (refChosen l Al l.length cl b _ (HLi.out.next HB.out) (by omega) (by omega)).mono ?_
      rintro e w5 ⟨v5, rfl, hp5, hb5⟩
      obtain ⟨A5, c5, rfl, _⟩ := id hp5
      have HP5 := Lib.hid hp5
      have HB5 := Lib.hid (HB.out.trans (hb5.mono HB.out.size))
      have HT5 := Lib.hid (HT.out.below hb5 HT.out.lt)
      clear hp5 hb5
      have HP6 := HP5
      have HB6 := HB5
      have HT6 := HT5
      go_wp2_with fail
      refine (refHolds9 f (chosenS l b) Af A5 _ cf _ c5 _ (HF2.out.next HB6.out) HP6.out).mono ?_
      rintro e w7 ⟨rfl, rfl⟩
      obtain ⟨bv, hbv⟩ : ∃ b', holdsS f (chosenS l b) = b' := ⟨_, rfl⟩
      rw [hbv]
      have HBv := Lib.hid hbv
      clear hbv
      cases bv
      · have HV : Hid (opHf 1 f g l N b = false) := Lib.hid (by unfold opHf; rw [if_neg (by omega), if_pos rfl, HBv.out]; rfl)
        have q2 := HT6.out.cell b
        have q3 := HT6.out.free b
        unfold brow at q2
        rw [arr_get _ _ b hbN] at q2
        go_wp2_with fail
        go_roundw
        case rel => exact ⟨b + 1, by omega, by go_num, Lib.hid (by rw [← brow_set N _ b false HV.out]; exact HT6.out.set b (.bool false)), Lib.hid (HB6.out.setCell (by have := HGw.out; dsimp only; omega) _)⟩
        case measure => simp [intOf]; omega
      · go_wp2_with fail
        refine (refHolds9 g (chosenS l b) Ag A5 _ cg _ c5 _ (HG2.out.next HB6.out) HP6.out).mono ?_
        rintro e w8 ⟨rfl, rfl⟩
        obtain ⟨bw, hbw⟩ : ∃ b', holdsS g (chosenS l b) = b' := ⟨_, rfl⟩
        rw [hbw]
        have HV : Hid (opHf 1 f g l N b = bw) := Lib.hid (by unfold opHf; rw [if_neg (by omega), if_pos rfl, HBv.out, hbw]; rfl)
        clear hbw
        have q2 := HT6.out.cell b
        have q3 := HT6.out.free b
        unfold brow at q2
        rw [arr_get _ _ b hbN] at q2
        go_wp2_with fail
        go_roundw
        case rel => exact ⟨b + 1, by omega, by go_num, Lib.hid (by rw [← brow_set N _ b bw HV.out]; exact HT6.out.set b (.bool bw)), Lib.hid (HB6.out.setCell (by have := HGw.out; dsimp only; omega) _)⟩
        case measure => simp [intOf]; omega
    · obtain rfl : b = N := by omega
      have h1 : ¬ (b : Int) < (b : Int) := by omega
      go_wp2_with fail
      refine (refMake l (opHf 1 f g l b) Al l.length cl gw b b _ (HLi.out.next HB.out) (by omega) HN.out ⟨HT.out.lt, fun j hj => ?_⟩).mono ?_
      · have := HT.out.cell j
        unfold brow at this
        rw [arr_get _ _ j hj, if_pos hj] at this
        exact this
      rintro e w9 ⟨v9, rfl, hf9, hb9⟩
      go_wp2_with fail
      go_ret
      refine ⟨v9, rfl, ?_, HB2.out.trans ((HB.out.trans (hb9.mono HB.out.size)).mono HB2.out.size)⟩
      rw [HOS.out]
      exact hf9

set_option maxRecDepth 100000 in
set_option maxHeartbeats 16000000 in
theorem refOp2 (f g : Fm) (Af Ag : Option Addr) (nf cf ng cg : Nat) (w : World) (hf : FmAt w (.slice Af nf cf) f) (hg : FmAt w (.slice Ag ng cg) g) (hln : f.flatten.length + g.flatten.length ≤ 1000000) (hm : (atomsS [f]).length ≤ 20) :
    Calls Try.prog 13 #[.slice Af nf cf, .slice Ag ng cg, .int .i64 2] w fun e w' => ∃ v, e = .returned v ∧ FmAt w' v (opS 2 f g) ∧ Below w.heap.size w w' := by
  have HF := Lib.hid hf
  have HG := Lib.hid hg
  have hf63 := hf.max
  have hg63 := hg.max
  obtain rfl := hf.len
  obtain rfl := hg.len
  have HLn := Lib.hid (show f.flatten.length ≤ 1000000 by omega)
  have HLb := Lib.hid hln
  clear hf hg hln
  go_enter Try.func13, Try.ntmps13
  go_wp2_with fail
  refine (refAtoms [f, g] (some ⟨w.heap.size, 0, none⟩) 2 2 _ (fs_two HF.out HG.out) (by have := HLb.out; simp only [List.flatten_cons, List.flatten_nil, List.append_nil, List.flatten_append, List.length_append]; omega)).mono ?_
  rintro e w1 ⟨va1, rfl, hza1, hb1⟩
  have HB1 : Hid (Below w.heap.size w w1) := Lib.hid (((Below.refl _ _).alloc (Nat.le_refl _) _).trans (hb1.mono (by simp)))
  clear hb1
  go_wp2_with fail
  refine (refAtoms [f] (some ⟨w1.heap.size, 0, none⟩) 1 1 _ (fs_one (HF.out.next HB1.out)) (by simp only [List.flatten_cons, List.flatten_nil, List.append_nil]; exact HLn.out)).mono ?_
  rintro e w2 ⟨va, rfl, hza, hb2⟩
  have HB2 := Lib.hid (HB1.out.trans ((((Below.refl _ _).alloc (Nat.le_refl _) _).trans (hb2.mono (by simp))).mono HB1.out.size))
  obtain ⟨l, hle⟩ : ∃ l, atomsS [f] = l := ⟨_, rfl⟩
  rw [hle] at hza hm
  have HLi : Hid (IntsAt w2 _ l) := Lib.hid hza.ints
  obtain ⟨Al, cl, rfl, _⟩ := id hza.ints
  have HLi : Hid (IntsAt w2 (.slice Al l.length cl) l) := Lib.hid hza.ints
  obtain ⟨N, hN⟩ : ∃ N, N = 2 ^ l.length := ⟨_, rfl⟩
  have HN := Lib.hid hN
  have HOS : Hid (opS 2 f g = makeTo l (opHf 2 f g l N) N) := Lib.hid (by
    have e : opAtoms 2 f g = l := by unfold opAtoms; rw [if_pos rfl]; exact hle
    unfold opS
    rw [e, hN])
  have hNs : N ≤ 1048576 := by rw [hN]; exact Nat.pow_le_pow_right (by omega) hm
  have hN0 : 0 < N := by rw [hN]; exact Nat.two_pow_pos _
  have e0 := pow_i64 l.length (by omega)
  rw [← hN] at e0
  clear hza hle hN
  have hm1 := run_make_row' (P := Try.prog) 59 4 (.bool false) 1 Try.underlying59 info_boolO rfl .i64 .i64 N (by omega) (by omega)
  rw [← brow_zero N (opHf 2 f g l N)] at hm1
  go_wp2_with fail
  rw [e0]
  clear hm1 e0
  obtain ⟨gw, hgw⟩ : ∃ gw, gw = w2.heap.size := ⟨_, rfl⟩
  have HGw := Lib.hid hgw
  have HT0 : Hid (At (w2.alloc (Obj.cells (brow N (opHf 2 f g l N) 0) 4)) gw 4 (brow N (opHf 2 f g l N) 0)) := by rw [hgw]; exact Lib.hid (At.new _ _ _)
  have HBa := Lib.hid (HB2.out.alloc HB2.out.size (Obj.cells (brow N (opHf 2 f g l N) 0) 4))
  rw [← hgw]
  clear hgw
  have hBw : w.heap.size ≤ w2.heap.size := HB2.out.size
  have HF2 := Lib.hid (HF.out.next HB2.out)
  have HG2 := Lib.hid (HG.out.next HB2.out)
  go_loopw [28] (fun x wr => ∃ b : Nat, b ≤ N ∧ x = .int .i64 b ∧ Hid (At wr gw 4 (brow N (opHf 2 f g l N) b)) ∧ Hid (Below w2.heap.size w2 wr)) (fun x _ => N - (intOf x).toNat)
  case atStart => exact ⟨0, Nat.zero_le _, rfl, HT0, Lib.hid ((Below.refl _ _).alloc (Nat.le_refl _) _)⟩
  case round =>
    clear HT0 HBa
    obtain ⟨b, hb, rfl, HT, HB⟩ := hrel
    by_cases hbN : b < N
    · have h1 : (0 : Int) ≤ (b : Int) := by omega
      have h2 : (b : Int) < (N : Int) := by omega
      go_wp2_with fail
      refine (refChosen l Al l.length cl b _ (HLi.out.next HB.out) (by omega) (by omega)).mono ?_
      rintro e w5 ⟨v5, rfl, hp5, hb5⟩
      obtain ⟨A5, c5, rfl, _⟩ := id hp5
      have HP5 := Lib.hid hp5
      have HB5 := Lib.hid (HB.out.trans (hb5.mono HB.out.size))
      have HT5 := Lib.hid (HT.out.below hb5 HT.out.lt)
      clear hp5 hb5
      have e1 : IntKind.i64.wrap ((N : Int) - 1) = (N : Int) - 1 := by rw [IntKind.wrap_i64]; omega
      obtain ⟨mb, hmb⟩ : ∃ mb, mb = N - 1 - b := ⟨_, rfl⟩
      have e2 : IntKind.i64.wrap ((N : Int) - 1 - (b : Int)) = (mb : Int) := by rw [IntKind.wrap_i64]; omega
      have hmN : mb < N := by omega
      have HMb := Lib.hid hmb
      clear hmb
      go_wp2_with fail
      refine (refChosen l Al l.length cl mb _ (HLi.out.next HB5.out) (by omega) (by omega)).mono ?_
      rintro e w6 ⟨v6, rfl, hp6, hb6⟩
      obtain ⟨A6, c6, rfl, _⟩ := id hp6
      have HP6 := Lib.hid hp6
      have HB6 := Lib.hid (HB5.out.trans (hb6.mono HB5.out.size))
      have HT6 := Lib.hid (HT5.out.below hb6 HT5.out.lt)
      clear hp6 hb6
      go_wp2_with fail
      refine (refHolds9 f (chosenS l mb) Af A6 _ cf _ c6 _ (HF2.out.next HB6.out) HP6.out).mono ?_
      rintro e w7 ⟨rfl, rfl⟩
      obtain ⟨bv, hbv⟩ : ∃ b, holdsS f (chosenS l mb) = b := ⟨_, rfl⟩
      rw [hbv]
      have HV : Hid (opHf 2 f g l N b = !bv) := Lib.hid (by unfold opHf; rw [if_neg (by omega), if_neg (by omega), ← HMb.out, hbv])
      clear hbv
      have q2 := HT6.out.cell b
      have q3 := HT6.out.free b
      unfold brow at q2
      rw [arr_get _ _ b hbN] at q2
      go_wp2_with fail
      go_roundw
      case rel => exact ⟨b + 1, by omega, by go_num, Lib.hid (by rw [← brow_set N _ b (!bv) HV.out]; exact HT6.out.set b (.bool (!bv))), Lib.hid (HB6.out.setCell (by have := HGw.out; dsimp only; omega) _)⟩
      case measure => simp [intOf]; omega
    · obtain rfl : b = N := by omega
      have h1 : ¬ (b : Int) < (b : Int) := by omega
      go_wp2_with fail
      refine (refMake l (opHf 2 f g l b) Al l.length cl gw b b _ (HLi.out.next HB.out) (by omega) HN.out ⟨HT.out.lt, fun j hj => ?_⟩).mono ?_
      · have := HT.out.cell j
        unfold brow at this
        rw [arr_get _ _ j hj, if_pos hj] at this
        exact this
      rintro e w9 ⟨v9, rfl, hf9, hb9⟩
      go_wp2_with fail
      go_ret
      refine ⟨v9, rfl, ?_, HB2.out.trans ((HB.out.trans (hb9.mono HB.out.size)).mono HB2.out.size)⟩
      rw [HOS.out]
      exact hf9

end Go.Proofs.Ytehokjaojanieaa
