/- macro.leanings. -/
import Derived.Test.YtkbfoelffeocmaaMd
import Derived.Test.YtkbfoelffeocmaaMacName
import Derived.StillTailTactics
namespace Go.Proofs.Ytkbfoelffeocmaa
open Go.RowKit
set_option linter.unusedSimpArgs false
set_option linter.unusedVariables false

theorem results_row_tmps3 {P : Program} {fn : Func} {p u v x : Tmp} {ty : TypeId} (h : fn.results = #[.cell p ty, .tmp u, .tmp v, .tmp x]) (tmps : Array Value) (w : World) (g : Nat) (t : TypeId) (cs : Array Value) (fr : Nat × Nat) (d : TypeDesc)
    (hp : tmps.getD p undef = .pointer (some ⟨g, 0, none⟩)) (hg : w.heap[g]? = some (.cells cs t fr))
    (hu : P.underlying ty = some d) (hd : (match d with | .struct _ | .array _ _ => true | _ => false) = true) (hi : (P.info? ty).map (·.size) = some cs.size) :
    (results fn tmps).run P w = .ok (.tuple #[.agg cs, tmps.getD u undef, tmps.getD v undef, tmps.getD x undef]) w := by
  have hp' : tmps[p]?.getD undef = .pointer (some ⟨g, 0, none⟩) := by simpa using hp
  simp [results, h, hp', asAddr, run_loadVar_row w g t ty cs fr d hg hu hd hi]
theorem built_mat : Try.prog.built 45 [] = some (mCells noneM) := by kernel_rfl
/-- What stands in the matrix behind i macros, and k words of macro i. -/
def leanM (ms : List (ByteArray × ByteArray)) (i : Nat) (l : List (Wd × Nat)) (k a b : Nat) : Bool :=
  if a < i then mat0 ms a b else if a = i then decide (b < ms.length) && hasN (l.take k) (atM ms b).1 else false
theorem leanM_start (ms : List (ByteArray × ByteArray)) : mCells (leanM ms 0 [] 0) = mCells noneM := mCells_congr (fun a b _ _ => by
  unfold leanM noneM
  rw [if_neg (by omega)]
  split
  · rw [show List.take 0 ([] : List (Wd × Nat)) = [] from rfl]; unfold hasN; simp
  · rfl)
theorem leanM_in (ms : List (ByteArray × ByteArray)) (i : Nat) (l : List (Wd × Nat)) : leanM ms i [] 0 = leanM ms i l 0 := by
  funext a b
  unfold leanM
  simp
theorem leanM_next {ms : List (ByteArray × ByteArray)} {i : Nat} {l : List (Wd × Nat)} (hi : i < ms.length) (hl : (wordsS (atM ms i).2).1 = l) : leanM ms i l l.length = leanM ms (i + 1) [] 0 := by
  funext a b
  unfold leanM
  by_cases h1 : a < i
  · rw [if_pos h1, if_pos (by omega)]
  rw [if_neg h1]
  by_cases h2 : a = i
  · subst h2
    rw [if_pos rfl, if_pos (by omega), List.take_length]
    unfold mat0
    rw [hl, decide_eq_true hi]; simp
  · rw [if_neg h2, if_neg (by omega)]
    split
    · simp [hasN]
    · rfl
theorem leanM_all {ms : List (ByteArray × ByteArray)} {n : Nat} (h : ms.length ≤ n) : leanM ms n [] 0 = mat0 ms := by
  funext a b
  unfold leanM
  by_cases h1 : a < n
  · rw [if_pos h1]
  · rw [if_neg h1]
    have : mat0 ms a b = false := by unfold mat0; rw [decide_eq_false (by omega)]; rfl
    rw [this]
    split
    · simp [hasN]
    · rfl
theorem hasN_snoc (l : List (Wd × Nat)) (x : Wd × Nat) (nm : ByteArray) : hasN (l ++ [x]) nm = (hasN l nm || (decide (x.1.kind = 11) && decide (x.1.name = nm))) := by
  unfold hasN; rw [List.any_append]; simp
theorem take_snoc {l : List (Wd × Nat)} {k : Nat} (h : k < l.length) : l.take (k + 1) = l.take k ++ [l[k]] := List.take_succ_eq_append_getElem h
theorem leanM_other {ms : List (ByteArray × ByteArray)} {i k : Nat} {l : List (Wd × Nat)} (h : k < l.length) (hk : l[k].1.kind ≠ 11) : leanM ms i l k = leanM ms i l (k + 1) := by
  funext a b
  unfold leanM
  rw [take_snoc h, hasN_snoc, decide_eq_false hk, Bool.false_and, Bool.or_false]
theorem leanM_put {ms : List (ByteArray × ByteArray)} (hn : (ms.map (·.1)).Nodup) {i k j : Nat} {l : List (Wd × Nat)} (h : k < l.length) (hk : l[k].1.kind = 11) (hj : j < ms.length) (hjn : (atM ms j).1 = l[k].1.name) :
    (fun a b => if a = i ∧ b = j then true else leanM ms i l k a b) = leanM ms i l (k + 1) := by
  funext a b
  unfold leanM
  rw [take_snoc h, hasN_snoc, decide_eq_true hk, Bool.true_and]
  by_cases h1 : a < i
  · rw [if_neg (by omega), if_pos h1, if_pos h1]
  rw [if_neg h1, if_neg h1]
  by_cases h2 : a = i
  · subst h2
    rw [if_pos rfl, if_pos rfl]
    by_cases h3 : b = j
    · subst h3
      rw [if_pos ⟨rfl, rfl⟩, decide_eq_true hj, decide_eq_true hjn.symm]; simp
    · rw [if_neg (by omega)]
      by_cases h4 : b < ms.length
      · have : ¬ l[k].1.name = (atM ms b).1 := fun e => h3 (nodup_at hn h4 hj (e.symm.trans hjn.symm))
        rw [decide_eq_false this, Bool.or_false]
      · rw [decide_eq_false h4]; rfl
  · rw [if_neg (by omega), if_neg h2, if_neg h2]
theorem wdCells_one (x : Wd) (p : Int) : (wdCells x p).all (·.oneCell') = true := by simp [wdCells, Value.oneCell']
theorem yieldsIf_build0 {P : Program} {ops : Array Oper} {S : World → Prop} {op : Oper} {a : Act} (hw : Region.wanted op (yielded ops a.tmps) = true) (ty : TypeId) (ho : op.op = .build ty #[])
    (cs : Array Value) (hf : P.built ty [] = some cs) : YieldsIf P ops S op (.agg cs) a :=
  .inl ⟨hw, fun w hw' => by
    unfold execOp
    simp only [ho, List.map_toArray, List.map_nil, Sem.run_bind, Sem.run_pure, run_build w ty #[] cs hf, Result.andThen_ok]⟩
theorem step_store_row {P : Program} {ops : Array Oper} {o : Oper} {a : Act} {w : World} {K : Act → World → Prop} {Q : Exit → Act → World → Prop} {E : Prop} (hg : o.guard = none) (ty : TypeId) (x y : Operand) (ho : o.op = .store ty x y) (g : Nat) (cells : Array Value) (hx : a.eval x = .pointer (some ⟨g, 0, none⟩)) (hy : a.eval y = .agg cells)
    (t : TypeId) (old : Array Value) (hat : At w g t old) (hi : (P.info? ty).map (·.size) = some cells.size) (hsz : old.size = cells.size) (h1 : cells.all (·.oneCell') = true) (hK : K (a.put o.dst undef) (w.setRow g cells)) :
    if Region.wanted o (yielded ops a.tmps) = true then Oper.wp P o a w K Q else E := by
  rw [if_pos (by simp [Region.wanted, hg])]
  exact wp_store_row ty x y ho g cells hx hy t old hat hi hsz h1 hK
def LeanPost (ms : List (ByteArray × ByteArray)) (w : World) (e : Ending) (w' : World) : Prop :=
  ∃ M, e = .returned (.tuple #[.agg (mCells M), .int .i64 (textsF ms ms.length 0).1, .int .i64 (textsF ms ms.length 0).2.1, .int .i64 (textsF ms ms.length 0).2.2]) ∧ ((textsF ms ms.length 0).2.2 = 0 → mCells M = mCells (mat0 ms)) ∧ Below w.heap.size w w'

set_option maxRecDepth 100000 in
set_option maxHeartbeats 8000000 in
theorem mLeanings (ms : List (ByteArray × ByteArray)) (hn20 : ms.length ≤ 20) (hnd : (ms.map (·.1)).Nodup) (A : Option Addr) (n c : Nat) (w : World) (hm : MacsAt w (.slice A n c) ms) (hsh : ShortM ms) :
    Calls Try.prog 9 #[.slice A n c] w (LeanPost ms w) := by
  obtain rfl := hm.len
  have z1 := zero_mat
  obtain ⟨w1, hw1⟩ : ∃ w1, w1 = (w.alloc (.cells (mCells noneM) 45)).alloc (.cells (mCells noneM) 45) := ⟨_, rfl⟩
  have HZ1 : Hid (At w1 w.heap.size 45 (mCells noneM)) := Lib.hid (by rw [hw1]; exact (At.new _ _ _).alloc _)
  have HA1 : Hid (At w1 (w.heap.size + 1) 45 (mCells noneM)) := Lib.hid (by rw [hw1]; exact at_new' (w.alloc (.cells (mCells noneM) 45)) (w.heap.size + 1) 45 (by simp))
  have HB1 : Hid (Below w.heap.size w w1) := Lib.hid (by rw [hw1]; exact below_two _ _)
  have HM := Lib.hid hm
  have HSH := Lib.hid hsh
  have HND := Lib.hid hnd
  have HW1 := Lib.hid hw1
  have honeZ := mCells_one noneM
  obtain ⟨R, hR⟩ : ∃ R, textsF ms ms.length 0 = R := ⟨_, rfl⟩
  have HR := Lib.hid hR
  unfold LeanPost
  rw [hR]
  clear hw1 hm hsh hnd hR
  go_enter Try.func9, Try.ntmps9
  go_wp2_with fail
  clear z1
  rw [← HW1.out]
  go_loopw [17] (fun i wr => ∃ i' : Nat, i' ≤ ms.length ∧ i = .int .i64 i' ∧ Hid (textsF ms (ms.length - i') i' = R) ∧ Hid (At wr w.heap.size 45 (mCells noneM)) ∧ Hid (At wr (w.heap.size + 1) 45 (mCells (leanM ms i' [] 0))) ∧ Hid (Below w.heap.size w wr)) (fun i _ => ms.length - (intOf i).toNat)
  case atStart => exact ⟨0, Nat.zero_le _, rfl, HR, HZ1, by rw [leanM_start]; exact HA1, HB1⟩
  case round =>
    clear HZ1 HA1 HB1 HW1
    obtain ⟨i, hi, rfl, HJ, HZ, HA, HB⟩ := hrel
    by_cases hil : i < ms.length
    · have hiz : (0 : Int) ≤ (i : Int) := by omega
      have hin : (i : Int) < (ms.length : Int) := by omega
      have hi20 : (i : Int) < 20 := by omega
      obtain ⟨A', cap, e1, _, h3⟩ := (HM.out.next HB.out)
      injection e1 with e1 _ e3
      subst e1
      subst e3
      obtain ⟨b, off, rfl, hb, hr⟩ := h3 (by omega)
      have HRj := Lib.hid (hr i hil)
      have HS1 := Lib.hid (HSH.out i hil).2
      have HJ2 : Hid ((match textF ms i with | some (p, e) => ((i : Int), p, e) | none => textsF ms (ms.length - (i + 1)) (i + 1)) = R) := Lib.hid (by
        have := HJ.out
        rw [show ms.length - i = (ms.length - (i + 1)) + 1 by omega] at this
        exact this)
      obtain ⟨m, hmm⟩ : ∃ m, atM ms i = m := ⟨_, rfl⟩
      have HMM := Lib.hid hmm
      rw [hmm] at HRj HS1
      clear hr h3 hb hmm
      have hbx := boxM_next wr m
      have HBx := Lib.hid (boxM_at wr m)
      have HBb := Lib.hid (HB.out.trans (hbx.mono HB.out.size))
      have HZb := Lib.hid (At.below HZ.out hbx HZ.out.lt)
      have HAb := Lib.hid (At.below HA.out hbx HA.out.lt)
      have hone := macCs_one m
      have cn := HBx.out.cell 1
      rw [show (macCs m).toArray[1]? = some (.string m.2) from rfl] at cn
      clear hbx
      go_wp2_with (first
        | (refine wpList_load_mid rfl 40 _ rfl b (off + i * 2) rfl (macCs m) _ HRj.out Try.underlying40 rfl (by kernel_rfl) ?_)
        | (with_reducible show wpList _ _ _ ({ dst := none, op := .store _ _ _, type := _, pos := _, after := _, guard := _ } :: _) _ _
           refine wpList_store_row rfl 40 _ _ rfl wr.heap.size (macCs m).toArray rfl rfl 40 #[.string { data := #[] }, .string { data := #[] }] (At.new _ _ _) (by kernel_rfl) rfl hone ?_
           change Exit.then _ _ _ _ (boxM wr m))
        | fail)
      refine (lexWords m.2 HS1.out (boxM wr m)).mono ?_
      rintro e w2 ⟨v, l, p, q, hwd, rfl, hwds, hb2⟩
      have HWD := Lib.hid hwd
      have HB2 := Lib.hid (HBb.out.trans (hb2.mono HBb.out.size))
      have HZ2 := Lib.hid (At.below HZb.out hb2 HZb.out.lt)
      have HA2 := Lib.hid (At.below HAb.out hb2 HAb.out.lt)
      have HWS := Lib.hid hwds
      obtain ⟨AW, capW, rfl⟩ := hwds.len
      obtain ⟨B0, hB0⟩ : ∃ B0, (boxM wr m).heap.size = B0 := ⟨_, rfl⟩
      have HB0 : Hid (w.heap.size + 1 < B0) := Lib.hid (by rw [← hB0]; exact HAb.out.lt)
      rw [hB0] at HWS
      clear hB0
      clear hwd hwds hb2 cn
      by_cases hq : q = 0
      · have HQ := Lib.hid hq
        subst hq
        go_wp2_with fail
        have HTX : Hid (textF ms i = match wordF ms l with | some p => some ((p : Int), 5) | none => none) := Lib.hid (by
          unfold textF
          rw [HMM.out, HWD.out, if_neg (by simp)]
          show (match wordF ms l with | some p => some ((p : Int), (5 : Int)) | none => none) = _
          cases wordF ms l <;> rfl)
        have HL20 : Hid (l.length ≤ 20000) := Lib.hid (by have := (words_at m.2).1; rw [HWD.out] at this; exact Nat.le_trans this HS1.out)
        have hl20 : (l.length : Int) ≤ 20000 := by have := HL20.out; omega
        obtain ⟨WF, hWF⟩ : ∃ WF, wordF ms l = WF := ⟨_, rfl⟩
        have HWF := Lib.hid hWF
        rw [hWF] at HTX
        clear hWF
        go_loopw [37] (fun k' wr => ∃ k : Nat, k ≤ l.length ∧ k' = .int .i64 k ∧ Hid (wordF ms (l.drop k) = WF) ∧ Hid (At wr w.heap.size 45 (mCells noneM)) ∧ Hid (At wr (w.heap.size + 1) 45 (mCells (leanM ms i l k))) ∧ Hid (Below w.heap.size w wr) ∧ Hid (Wds wr B0 (.slice AW l.length capW) l)) (fun k' _ => l.length - (intOf k').toNat)
        case atStart => exact ⟨0, Nat.zero_le _, rfl, HWF, HZ2, by rw [← leanM_in]; exact HA2, HB2, HWS⟩
        case round =>
          clear HZ2 HA2 HZ HA HB HZb HAb HBb HBx HWS HRj HB2
          obtain ⟨k, hk, rfl, HJW, HZ, HA, HB, HWS⟩ := hrel
          by_cases hkl : k < l.length
          · have hkz : (0 : Int) ≤ (k : Int) := by omega
            have hkn : (k : Int) < (l.length : Int) := by omega
            obtain ⟨AW', capW', e1, _, h3⟩ := wds_in HWS.out (g := wr.heap.size) (fun b hb => (World.ownsRow.lt HWS.out b hb).2)
            injection e1 with e1 _ e3
            subst e1
            subst e3
            obtain ⟨bw, ow, rfl, hbw, hrw⟩ := h3 (by omega)
            have hrk := hrw k hkl
            have HWD2 : Hid (wordF ms (l[k] :: l.drop (k + 1)) = WF) := Lib.hid (by rw [← drop_cons l k hkl]; exact HJW.out)
            have HLK := Lib.hid (show (l[k].1.kind ≠ 11 → leanM ms i l k = leanM ms i l (k + 1)) ∧ (l[k].1.kind = 11 → ∀ j, j < ms.length → (atM ms j).1 = l[k].1.name → (fun a b => if a = i ∧ b = j then true else leanM ms i l k a b) = leanM ms i l (k + 1)) from ⟨fun q => leanM_other hkl q, fun q j hj e => leanM_put HND.out hkl q hj e⟩)
            generalize l[k] = x at hrk HWD2 HLK
            have HRW := Lib.hid hrk
            clear hrk hrw h3 hbw
            have hbx := boxWd_next wr x.1 x.2
            have HX := Lib.hid (boxWd_at wr x.1 x.2)
            have HBx := Lib.hid (HB.out.trans (hbx.mono HB.out.size))
            have HZx := Lib.hid (At.below HZ.out hbx HZ.out.lt)
            have HAx := Lib.hid (At.below HA.out hbx HA.out.lt)
            have HWx : Hid (Wds (boxWd wr x.1 x.2) B0 (.slice (some ⟨bw, ow, none⟩) l.length capW) l) := Lib.hid (HWS.out.next hbx)
            have honeW := wdCells_one x.1 x.2
            have cK := HX.out.cell 0
            rw [show (wdCells x.1 x.2)[0]? = some (.int .i64 x.1.kind) from rfl] at cK
            have cP := HX.out.cell 1
            rw [show (wdCells x.1 x.2)[1]? = some (.int .i64 x.2) from rfl] at cP
            have cN := HX.out.cell 6
            rw [show (wdCells x.1 x.2)[6]? = some (.string x.1.name) from rfl] at cN
            clear hbx
            by_cases hkd : x.1.kind = 11
            · have hkb := (int_eq hkd).2
              have HKD := Lib.hid hkd
              clear hkd cP
              go_wp2_with (first
                | (refine wpList_load_mid rfl 57 _ rfl bw (ow + k * 9) rfl (wdCells x.1 x.2).toList _ HRW.out Try.underlying57 rfl (by kernel_rfl) ?_)
                | (with_reducible show wpList _ _ _ ({ dst := none, op := .store _ _ _, type := _, pos := _, after := _, guard := _ } :: _) _ _
                   refine wpList_store_row rfl 57 _ _ rfl wr.heap.size (wdCells x.1 x.2) rfl rfl 57 (wdCells wd0 0) (At.new _ _ _) (by kernel_rfl) rfl honeW ?_
                   change Exit.then _ _ _ _ (boxWd wr x.1 x.2))
                | fail)
              refine (mFind x.1.name ms _ _ _ _ (HM.out.next HBx.out)).mono ?_
              rintro e w4 ⟨rfl, hb4⟩
              have HB4 := Lib.hid (HBx.out.trans (hb4.mono HBx.out.size))
              have HZ4 := Lib.hid (At.below HZx.out hb4 HZx.out.lt)
              have HA4 := Lib.hid (At.below HAx.out hb4 HAx.out.lt)
              have HX4 := Lib.hid (At.below HX.out hb4 HX.out.lt)
              have HW4 : Hid (Wds w4 B0 (.slice (some ⟨bw, ow, none⟩) l.length capW) l) := Lib.hid (HWx.out.next hb4)
              obtain ⟨r, hr⟩ : ∃ r, findM ms x.1.name 0 = r := ⟨_, rfl⟩
              have HRR := Lib.hid hr
              rw [hr]
              clear hb4 hr cK cN hkb
              by_cases h0 : r < 0
              · have HWE : Hid (WF = some x.2) := Lib.hid (by rw [← HWD2.out]; show (if x.1.kind = 11 ∧ findM ms x.1.name 0 < 0 then some x.2 else _) = _; rw [if_pos ⟨HKD.out, by rw [HRR.out]; exact h0⟩])
                have HE : Hid (R = ((i : Int), (x.2 : Int), 5)) := Lib.hid (by
                  rw [← HJ2.out, HTX.out, HWE.out])
                have cP := HX4.out.cell 1
                rw [show (wdCells x.1 x.2)[1]? = some (.int .i64 x.2) from rfl] at cP
                go_wp2_with fail
                refine wp_region_noPanic ?_
                refine wp_region_held_drew (S := (fun w' => At w' wr.heap.size 57 (wdCells x.1 x.2))) (by kernel_rfl) (by first | exact HX4.out.drew | exact (HX4.out.drew).rowOther (by have := HZx.out.lt; have := HZ.out.lt; omega) _) (fun hHeld => ?_)
                refine wpAnyH_take (i := 0) (oi := ⟨some 50, _, _, _, _, _⟩) (v := _) rfl (by kernel_rfl) (by kernel_rfl) (by kernel_rfl) (fun _ _ _ h => h) (yieldsIf_build0 rfl 45 rfl (mCells noneM) built_mat) (by exact hHeld) ?_
                simp only [Act.put, List.setIfInBounds_toArray, List.set_cons_zero, List.set_cons_succ]
                refine wpAnyH_take (i := 1) (oi := ⟨some 51, _, _, _, _, _⟩) (v := ?_) rfl (by kernel_rfl) (by kernel_rfl) (by kernel_rfl) (fun _ _ _ h => h) (Or.inl ⟨by rfl, ?_⟩) (by exact hHeld) ?_
                rotate_left
                · (intro w hSw; (try dsimp only at hSw); go_simp; try (with_reducible rfl))
                simp only [Act.put, List.setIfInBounds_toArray, List.set_cons_zero, List.set_cons_succ]
                refine wpAnyH_take (i := 2) (oi := ⟨some 52, _, _, _, _, _⟩) (v := ?_) rfl (by kernel_rfl) (by kernel_rfl) (by kernel_rfl) (fun _ _ _ h => h) (Or.inl ⟨by rfl, ?_⟩) (by exact hHeld) ?_
                rotate_left
                · (intro w hSw; (try dsimp only at hSw); go_simp; try (with_reducible rfl))
                simp only [Act.put, List.setIfInBounds_toArray, List.set_cons_zero, List.set_cons_succ]
                refine wpAnyH_take (i := 3) (oi := ⟨some 53, _, _, _, _, _⟩) (v := ?_) rfl (by kernel_rfl) (by kernel_rfl) (by kernel_rfl) (fun _ _ _ h => h) (Or.inl ⟨by rfl, ?_⟩) (by exact hHeld) ?_
                rotate_left
                · (intro w hSw; (try dsimp only at hSw); have cQ := At.cell hSw 1; rw [show (wdCells x.1 x.2)[1]? = some (.int .i64 x.2) from rfl] at cQ; go_simp; try (with_reducible rfl))
                simp only [Act.put, List.setIfInBounds_toArray, List.set_cons_zero, List.set_cons_succ]
                refine wpAnyH_ready (rs := [4]) (by kernel_rfl) (by simp) ?_
                refine AllReadyH.cons (o := ⟨none, _, _, _, _, _⟩) rfl (fun K hK => ?_) AllReadyH.nil
                refine step_store_row rfl 45 _ _ rfl w.heap.size (mCells noneM) rfl rfl 45 (mCells noneM) HZ4.out.drew (by rw [mCells_size]; kernel_rfl) rfl honeZ ?_
                refine hK.out _ _ ?_ (fun hHeld => ?_)
                · first | exact HX4.out.drew | exact (HX4.out.drew).rowOther (by have := HZx.out.lt; have := HZ.out.lt; omega) _
                clear hK K
                try simp only [Act.put, List.setIfInBounds_toArray, List.set_cons_zero, List.set_cons_succ]
                refine wpAnyH_take (i := 5) (oi := ⟨some 3, _, _, _, _, _⟩) (v := ?_) rfl (by kernel_rfl) (by kernel_rfl) (by kernel_rfl) (fun _ _ _ h => h) (Or.inl ⟨by rfl, ?_⟩) (by exact hHeld) ?_
                rotate_left
                · (intro w hSw; (try dsimp only at hSw); go_simp; try (with_reducible rfl))
                simp only [Act.put, List.setIfInBounds_toArray, List.set_cons_zero, List.set_cons_succ]
                refine wpAnyH_take (i := 6) (oi := ⟨some 4, _, _, _, _, _⟩) (v := ?_) rfl (by kernel_rfl) (by kernel_rfl) (by kernel_rfl) (fun _ _ _ h => h) (Or.inl ⟨by rfl, ?_⟩) (by exact hHeld) ?_
                rotate_left
                · (intro w hSw; (try dsimp only at hSw); go_simp; try (with_reducible rfl))
                simp only [Act.put, List.setIfInBounds_toArray, List.set_cons_zero, List.set_cons_succ]
                refine wpAnyH_take (i := 7) (oi := ⟨some 5, _, _, _, _, _⟩) (v := ?_) rfl (by kernel_rfl) (by kernel_rfl) (by kernel_rfl) (fun _ _ _ h => h) (Or.inl ⟨by rfl, ?_⟩) (by exact hHeld) ?_
                rotate_left
                · (intro w hSw; (try dsimp only at hSw); go_simp; try (with_reducible rfl))
                simp only [Act.put, List.setIfInBounds_toArray, List.set_cons_zero, List.set_cons_succ]
                refine wpAnyH_done (by kernel_rfl) ?_ _
                refine NoPanic.normal ?_
                go_wp2_with fail
                have ho : Only w.heap.size w4.drew (w4.drew.setRow w.heap.size (mCells noneM)) := Only.row _ _ _
                exact bodyPost_ret (results_row_tmps3 Try.results9 _ _ w.heap.size 45 (mCells noneM) (0, 0) _ rfl (HZ4.out.drew.row _) Try.underlying45 rfl (by rw [mCells_size]; kernel_rfl)) rfl ⟨noneM, by rw [HE.out]; rfl, fun q0 => absurd q0 (by rw [HE.out]; show ¬ (5 : Int) = 0; decide), (HB4.out.drew).trans (ho.below (Nat.le_refl _))⟩
              · have h0b : decide (r < 0) = false := decide_eq_false h0
                obtain ⟨j, hjl, hrj, hjn⟩ := findM_lt (ms := ms) (nm := x.1.name) (by rw [HRR.out]; exact h0)
                rw [HRR.out] at hrj
                subst hrj
                have hjz : (0 : Int) ≤ (j : Int) := by omega
                have hj20 : (j : Int) < 20 := by omega
                have HPU := Lib.hid (HLK.out.2 HKD.out j hjl hjn)
                have HWE : Hid (wordF ms (l.drop (k + 1)) = WF) := Lib.hid (by rw [← HWD2.out]; symm; show (if x.1.kind = 11 ∧ findM ms x.1.name 0 < 0 then _ else _) = _; rw [if_neg (fun q => h0 (by rw [← HRR.out]; exact q.2))])
                obtain ⟨qv, hqv⟩ : ∃ qv, w4.cell? ⟨w.heap.size + 1, i * 20 + j, none⟩ = some qv := ⟨_, (HA4.out.cell (i * 20 + j)).trans (mCells_get _ (by omega) (by omega))⟩
                have hqf := HA4.out.free (i * 20 + j)
                have HN := HA4.out.set (i * 20 + j) (.bool true)
                rw [mCells_set _ (by omega) (by omega), HPU.out] at HN
                have HN := Lib.hid HN
                clear hjn h0
                go_wp2_with fail
                exact ⟨⟨k + 1, by omega, by go_num, HWE, Lib.hid (HZ4.out.other (p := ⟨w.heap.size + 1, i * 20 + j, none⟩) (by dsimp only; omega) _), HN, Lib.hid (HB4.out.setCell (p := ⟨w.heap.size + 1, i * 20 + j, none⟩) (by dsimp only; omega) _), Lib.hid (HW4.out.grown (row := some (w.heap.size + 1)) (grownBy_set w4 (w.heap.size + 1) (i * 20 + j) (.bool true)) (Or.inr (fun e => by have := HW4.out.low _ e; have := HB0.out; omega)))⟩, by simp [intOf]; omega⟩
            · have hkb := (int_ne hkd).2
              have HKE := Lib.hid (HLK.out.1 hkd)
              have HWE : Hid (wordF ms (l.drop (k + 1)) = WF) := Lib.hid (by rw [← HWD2.out]; symm; show (if x.1.kind = 11 ∧ _ then _ else _) = _; rw [if_neg (fun q => hkd q.1)])
              clear hkd cP cN
              go_wp2_with (first
                | (refine wpList_load_mid rfl 57 _ rfl bw (ow + k * 9) rfl (wdCells x.1 x.2).toList _ HRW.out Try.underlying57 rfl (by kernel_rfl) ?_)
                | (with_reducible show wpList _ _ _ ({ dst := none, op := .store _ _ _, type := _, pos := _, after := _, guard := _ } :: _) _ _
                   refine wpList_store_row rfl 57 _ _ rfl wr.heap.size (wdCells x.1 x.2) rfl rfl 57 (wdCells wd0 0) (At.new _ _ _) (by kernel_rfl) rfl honeW ?_
                   change Exit.then _ _ _ _ (boxWd wr x.1 x.2))
                | fail)
              exact ⟨⟨k + 1, by omega, by go_num, HWE, HZx, by rw [← HKE.out]; exact HAx, HBx, HWx⟩, by simp [intOf]; omega⟩
          · obtain rfl : k = l.length := by omega
            have HWN : Hid (textsF ms (ms.length - (i + 1)) (i + 1) = R) := Lib.hid (by
              have h1 := HJW.out
              rw [List.drop_length] at h1
              have h2 : WF = none := h1.symm
              have h3 := HTX.out
              rw [h2] at h3
              have h4 := HJ2.out
              rw [h3] at h4
              exact h4)
            have HLN := Lib.hid (leanM_next hil (show (wordsS (atM ms i).2).1 = l by rw [HMM.out, HWD.out]))
            go_wp2_with fail
            exact ⟨⟨i + 1, by omega, by go_num, HWN, HZ, by rw [← HLN.out]; exact HA, HB⟩, by simp [intOf]; omega⟩
      · have hqb := (int_ne hq).2
        have HE : Hid (R = ((i : Int), p, q)) := Lib.hid (by
          rw [← HJ2.out]
          have : textF ms i = some (p, q) := by
            unfold textF
            rw [HMM.out, HWD.out, if_pos hq]
          rw [this])
        have HQ := Lib.hid hq
        clear hq
        go_wp2_with (first
          | (refine wpList_build_as rfl 45 _ rfl (mCells noneM) built_mat ?_)
          | (with_reducible show wpList _ _ _ ({ dst := none, op := .store _ _ _, type := _, pos := _, after := _, guard := _ } :: _) _ _
             refine wpList_store_row rfl 45 _ _ rfl w.heap.size (mCells noneM) rfl rfl 45 (mCells noneM) HZ2.out (by rw [mCells_size]; kernel_rfl) rfl honeZ ?_)
          | fail)
        have ho : Only w.heap.size w2 (w2.setRow w.heap.size (mCells noneM)) := Only.row _ _ _
        exact bodyPost_ret (results_row_tmps3 Try.results9 _ _ w.heap.size 45 (mCells noneM) (0, 0) _ rfl (HZ2.out.row _) Try.underlying45 rfl (by rw [mCells_size]; kernel_rfl)) rfl ⟨noneM, by rw [HE.out]; rfl, fun q0 => absurd q0 (by rw [HE.out]; exact HQ.out), HB2.out.trans (ho.below (Nat.le_refl _))⟩
    · obtain rfl : i = ms.length := by omega
      have hone := mCells_one (leanM ms ms.length [] 0)
      go_wp2_with (first
        | (refine wpList_load_row rfl 45 _ rfl (w.heap.size + 1) rfl 45 (mCells (leanM ms ms.length [] 0)) (0, 0) _ HA.out Try.underlying45 rfl (by rw [mCells_size]; kernel_rfl) ?_)
        | (with_reducible show wpList _ _ _ ({ dst := none, op := .store _ _ _, type := _, pos := _, after := _, guard := _ } :: _) _ _
           refine wpList_store_row rfl 45 _ _ rfl w.heap.size (mCells (leanM ms ms.length [] 0)) rfl rfl 45 (mCells noneM) HZ.out (by rw [mCells_size]; kernel_rfl) (by rw [mCells_size, mCells_size]) hone ?_)
        | fail)
      have ho : Only w.heap.size wr (wr.setRow w.heap.size (mCells (leanM ms ms.length [] 0))) := Only.row _ _ _
      exact bodyPost_ret (results_row_tmps3 Try.results9 _ _ w.heap.size 45 (mCells (leanM ms ms.length [] 0)) (0, 0) _ rfl (HZ.out.row _) Try.underlying45 rfl (by rw [mCells_size]; kernel_rfl)) rfl ⟨leanM ms ms.length [] 0, by rw [← HJ.out, Nat.sub_self]; rfl, fun _ => by rw [leanM_all (Nat.le_refl _)], HB.out.trans (ho.below (Nat.le_refl _))⟩

end Go.Proofs.Ytkbfoelffeocmaa
