/- The parser's small steps: take, fail, enter, leave, bounds, beginsNot, join. -/
import Derived.Test.YtkbfoelffeocmaaParseA
import Derived.Deep.QuietTactic
import Derived.BigQuiet
namespace Go.Proofs.Ytkbfoelffeocmaa
open Go.RowKit
set_option linter.unusedSimpArgs false
set_option linter.unusedVariables false

theorem field_kind (x : Wd) (p : Int) (w : World) : (Instr.field 57 (.agg (wdCells x p)) 0).run Try.prog w = .ok (.int .i64 x.kind) w := by kernel_rfl
theorem field_at (x : Wd) (p : Int) (w : World) : (Instr.field 57 (.agg (wdCells x p)) 1).run Try.prog w = .ok (.int .i64 p) w := by kernel_rfl
/-- A call that answers nothing. -/
def PNone (w : World) (g E : Nat) (D : Value) (s : PSt) (e : Ending) (w' : World) : Prop := e = .returned (.tuple #[]) ∧ PAt w' g E D s ∧ w.grownBy w' (some g)
theorem set_keep {w : World} {g : Nat} {v : Value} {ws : List (Wd × Nat)} (h : WordsIn w g v ws) (hg : g ≤ w.heap.size) (i : Nat) (u : Value) : WordsIn (w.setCell ⟨g, i, none⟩ u) g v ws := h.keep (grownBy_lo (grownBy_set w g i u) hg)

set_option maxRecDepth 100000 in
set_option maxHeartbeats 4000000 in
theorem pFail (g E : Nat) (D : Value) (s : PSt) (p q : Int) (w : World) (h : PAt w g E D s) :
    Calls Try.prog 38 #[.pointer (some ⟨g, 0, none⟩), .int .i64 p, .int .i64 q] w (PNone w g E D (failS p q s)) := by
  obtain ⟨v, hwv, hA, c0, c1, c2, c3, c4, c5, hf⟩ := h.c0
  have f0 := hf 0
  have f4 := hf 4
  have f5 := hf 5
  have HA := Lib.hid hA
  have HV := Lib.hid hwv
  have hg := h.lt
  have HG := Lib.hid hg
  clear hf hA hwv h c1 c2 c3 hg
  by_cases h0 : s.flt = 0
  · have HF : Hid (failS p q s = { s with ws := [], flt := q, place := p }) := Lib.hid (by unfold failS; rw [if_pos h0])
    rw [h0] at c4
    clear h0
    go_enter Try.func38, Try.ntmps38
    go_wp2_with fail
    have hA2 := ((HA.out.set 4 (.int .i64 q)).set 5 (.int .i64 p)).set 0 (.slice none 0 0)
    go_end0
    have hb := grownBy_trans (grownBy_trans (grownBy_set w g 4 (.int .i64 q)) (grownBy_set _ g 5 (.int .i64 p))) (grownBy_set _ g 0 (.slice none 0 0))
    exact ⟨rfl, by rw [HF.out]; exact ⟨_, WordsIn.nil _ _, hA2⟩, hb⟩
  · have HF : Hid (failS p q s = s) := Lib.hid (by unfold failS; rw [if_neg h0])
    have hb := (int_ne h0).1
    clear h0
    go_enter Try.func38, Try.ntmps38
    go_wp2_with fail
    go_end0
    exact ⟨rfl, by rw [HF.out]; exact ⟨v, HV.out, HA.out⟩, grownBy_refl _ _⟩

set_option maxRecDepth 100000 in
set_option maxHeartbeats 4000000 in
theorem pLeave (g E : Nat) (D : Value) (s : PSt) (w : World) (h : PAt w g E D s) (h1 : -100000 ≤ s.op) (h2 : s.op ≤ 100000) :
    Calls Try.prog 81 #[.pointer (some ⟨g, 0, none⟩)] w (PNone w g E D (leaveS s)) := by
  obtain ⟨v, hwv, hA, c0, c1, c2, c3, c4, c5, hf⟩ := h.c0
  have f3 := hf 3
  have HA := Lib.hid hA
  have HV := Lib.hid hwv
  have hg := h.lt
  have HG := Lib.hid hg
  clear hf hA hwv h c0 c1 c2 c4 c5 hg
  have hw1 : IntKind.i64.wrap (s.op - 1) = s.op - 1 := by rw [IntKind.wrap_i64]; omega
  go_enter Try.func81, Try.ntmps81
  go_wp2_with fail
  go_end0
  exact ⟨rfl, ⟨v, set_keep HV.out (Nat.le_of_lt HG.out) _ _, HA.out.set 3 (.int .i64 (s.op - 1))⟩, grownBy_set _ _ _ _⟩

set_option maxRecDepth 100000 in
set_option maxHeartbeats 4000000 in
theorem pEnter (g E : Nat) (D : Value) (s : PSt) (p : Int) (w : World) (h : PAt w g E D s) (h1 : -100000 ≤ s.op) (h2 : s.op ≤ 100000) :
    Calls Try.prog 80 #[.pointer (some ⟨g, 0, none⟩), .int .i64 p] w (PNone w g E D (enterS p s)) := by
  obtain ⟨v, hwv, hA, c0, c1, c2, c3, c4, c5, hf⟩ := h.c0
  have f3 := hf 3
  have hA1 : At (w.setCell ⟨g, 3, none⟩ (.int .i64 (s.op + 1))) g 71 (({ s with op := s.op + 1 } : PSt).cs v E D) := hA.set 3 (.int .i64 (s.op + 1))
  have hP : PAt (w.setCell ⟨g, 3, none⟩ (.int .i64 (s.op + 1))) g E D { s with op := s.op + 1 } := ⟨v, set_keep hwv (Nat.le_of_lt h.lt) _ _, hA1⟩
  have q3 := hA1.cell 3
  rw [show (({ s with op := s.op + 1 } : PSt).cs v E D)[3]? = some (.int .i64 (s.op + 1)) from rfl] at q3
  have HP := Lib.hid hP
  clear hf hA hwv h c0 c1 c2 c4 c5 hA1 hP
  have hw1 : IntKind.i64.wrap (s.op + 1) = s.op + 1 := by rw [IntKind.wrap_i64]; omega
  by_cases h0 : s.op + 1 > 40
  · have HE : Hid (enterS p s = failS p 8 { s with op := s.op + 1 }) := Lib.hid (by unfold enterS; rw [if_pos h0])
    have hd : decide (s.op + 1 > 40) = true := decide_eq_true h0
    have hd2 : 40 < s.op + 1 := h0
    clear h0
    go_enter Try.func80, Try.ntmps80
    go_wp2_with fail
    refine (pFail g E D { s with op := s.op + 1 } p 8 _ HP.out).mono ?_
    rintro e w2 ⟨rfl, hp2, hg2⟩
    go_wp2_with fail
    go_end0
    exact ⟨rfl, by rw [HE.out]; exact hp2, grownBy_trans (grownBy_set _ _ _ _) hg2⟩
  · have HE : Hid (enterS p s = { s with op := s.op + 1 }) := Lib.hid (by unfold enterS; rw [if_neg h0])
    have hd : decide (s.op + 1 > 40) = false := decide_eq_false h0
    have hd2 : ¬ 40 < s.op + 1 := h0
    clear h0
    go_enter Try.func80, Try.ntmps80
    go_wp2_with fail
    go_end0
    exact ⟨rfl, by rw [HE.out]; exact HP.out, grownBy_set _ _ _ _⟩

def takeS (E : Nat) (k : Int) (s : PSt) : Bool × PSt := if (peekS E s).1.kind = k then (true, nextS s) else (false, s)
set_option maxRecDepth 100000 in
set_option maxHeartbeats 4000000 in
theorem pTake (g E : Nat) (D : Value) (s : PSt) (k : Int) (w : World) (h : PAt w g E D s) (hE : E ≤ 20000) :
    Calls Try.prog 66 #[.pointer (some ⟨g, 0, none⟩), .int .i64 k] w fun e w' => e = .returned (.bool (takeS E k s).1) ∧ PAt w' g E D (takeS E k s).2 ∧ w.grownBy w' (some g) := by
  have HP := Lib.hid h
  clear h
  obtain ⟨x, hx⟩ : ∃ x, peekS E s = x := ⟨_, rfl⟩
  have HX := Lib.hid hx
  clear hx
  by_cases h0 : x.1.kind = k
  · have hne : (x.1.kind != k) = false := by rw [h0]; simp
    have HI : Hid (takeS E k s = (true, nextS s)) := Lib.hid (by unfold takeS; rw [HX.out, if_pos h0])
    clear h0
    go_enter Try.func66, Try.ntmps66
    go_wp2_with fail
    refine (pPeek g E D s _ HP.out hE).mono ?_
    rintro e w2 ⟨rfl, hb2⟩
    rw [HX.out]
    have hfk := field_kind x.1 x.2 w2
    go_wp2_with fail
    refine (pNext g E D s _ (HP.out.next hb2) hE).mono ?_
    rintro e w3 ⟨rfl, hp3, hg3⟩
    go_wp2_with fail
    go_ret
    exact ⟨by rw [HI.out]; rfl, by rw [HI.out]; exact hp3, grownBy_trans (grownBy_below (grownBy_refl _ _) hb2) hg3⟩
  · have hne : (x.1.kind != k) = true := by simp [h0]
    have HI : Hid (takeS E k s = (false, s)) := Lib.hid (by unfold takeS; rw [HX.out, if_neg h0])
    clear h0
    go_enter Try.func66, Try.ntmps66
    go_wp2_with fail
    refine (pPeek g E D s _ HP.out hE).mono ?_
    rintro e w2 ⟨rfl, hb2⟩
    rw [HX.out]
    have hfk := field_kind x.1 x.2 w2
    go_wp2_with fail
    go_ret
    exact ⟨by rw [HI.out]; rfl, by rw [HI.out]; exact HP.out.next hb2, grownBy_below (grownBy_refl _ _) hb2⟩

set_option maxRecDepth 100000 in
set_option maxHeartbeats 4000000 in
theorem pBegins (k : Int) (w : World) :
    Calls Try.prog 74 #[.int .i64 k] w fun e w' => e = .returned (.bool (notBegins k)) ∧ Below w.heap.size w w' := by
  unfold notBegins
  go_enter Try.func74, Try.ntmps74
  go_wp2
  all_goals
    first
    | (go_ret; exact ⟨by simp_all, Below.refl _ _⟩)
    | trace_state

set_option maxRecDepth 100000 in
set_option maxHeartbeats 4000000 in
theorem pBounds (x : Wd) (p : Int) (w : World) :
    Calls Try.prog 86 #[.agg (wdCells x p)] w fun e w' => e = .returned (.tuple #[.int .i64 (timesW x).1, .int .i64 (timesW x).2.1, .bool (timesW x).2.2]) ∧ Below w.heap.size w w' := by
  have hA := At.new w 57 (wdCells x p)
  have c0 := hA.cell 0
  have c7 := hA.cell 7
  have c8 := hA.cell 8
  rw [show (wdCells x p)[0]? = some (.int .i64 x.kind) from rfl] at c0
  rw [show (wdCells x p)[7]? = some (.int .i64 x.lo) from rfl] at c7
  rw [show (wdCells x p)[8]? = some (.int .i64 x.hi) from rfl] at c8
  have hb : Below w.heap.size w (w.alloc (.cells (wdCells x p) 57)) := (Below.refl _ _).alloc (Nat.le_refl _) _
  clear hA
  by_cases h7 : x.kind = 7
  · have HT : Hid (timesW x = (0, -1, true)) := Lib.hid (by unfold timesW;  rw [if_pos h7])
    rw [h7] at c0
    clear  h7
    go_enter Try.func86, Try.ntmps86
    go_wp2_with fail
    go_ret3
    exact ⟨by rw [HT.out]; rfl, hb⟩
  by_cases h8 : x.kind = 8
  · have HT : Hid (timesW x = (1, -1, true)) := Lib.hid (by unfold timesW; rw [if_neg h7]; rw [if_pos h8])
    rw [h8] at c0
    clear h7 h8
    go_enter Try.func86, Try.ntmps86
    go_wp2_with fail
    go_ret3
    exact ⟨by rw [HT.out]; rfl, hb⟩
  by_cases h9 : x.kind = 9
  · have HT : Hid (timesW x = (0, 1, true)) := Lib.hid (by unfold timesW; rw [if_neg h7]; rw [if_neg h8]; rw [if_pos h9])
    rw [h9] at c0
    clear h7 h8 h9
    go_enter Try.func86, Try.ntmps86
    go_wp2_with fail
    go_ret3
    exact ⟨by rw [HT.out]; rfl, hb⟩
  by_cases h10 : x.kind = 10
  · have HT : Hid (timesW x = (x.lo, x.hi, true)) := Lib.hid (by unfold timesW; rw [if_neg h7]; rw [if_neg h8]; rw [if_neg h9]; rw [if_pos h10])
    rw [h10] at c0
    clear h7 h8 h9 h10
    go_enter Try.func86, Try.ntmps86
    go_wp2_with fail
    go_quiet (fail)
    go_wp2_with fail
    go_ret3
    exact ⟨by rw [HT.out]; rfl, ⟨hb.os, hb.tape, hb.output, hb.size, hb.block⟩⟩
  have HT : Hid (timesW x = (0, 0, false)) := Lib.hid (by unfold timesW; rw [if_neg h7, if_neg h8, if_neg h9, if_neg h10])
  have k7 := (int_ne h7).1
  have k8 := (int_ne h8).1
  have k9 := (int_ne h9).1
  have k10 := (int_ne h10).1
  clear h7 h8 h9 h10
  go_enter Try.func86, Try.ntmps86
  go_wp2_with fail
  go_ret3
  exact ⟨by rw [HT.out]; rfl, hb⟩

set_option maxRecDepth 100000 in
set_option maxHeartbeats 4000000 in
theorem pJoin (H0 H : Nat) (k n c : Nat) (A : Option Addr) (L Ls : List Tr) (w : World) (h : PartsIn w H0 H (.slice A n c) L Ls) (hn : n = L.length) (hn2 : n ≤ 100000) (hk : k ≤ 20) (hH : H ≤ w.heap.size) (h0 : 0 < n) (hH0 : H0 ≤ H) :
    Calls Try.prog 67 #[.int .i64 k, .slice A n c] w fun e w' => ∃ t, e = .returned (.agg t.cs.toArray) ∧ Tr.Is w' H0 H t (joinS k Ls) ∧ Below w.heap.size w w' := by
  have hz1 : At (w.alloc (.cells #[.int .i64 0, .int .u64 0, .int .u64 0, .int .u64 0, .int .u64 0, .slice none 0 0, .int .i64 0, .int .i64 0, .bool false] 34)) w.heap.size 34 Tr.blank.cs.toArray := At.new w 34 Tr.blank.cs.toArray
  have hb1 : Below w.heap.size w (w.alloc (.cells #[.int .i64 0, .int .u64 0, .int .u64 0, .int .u64 0, .int .u64 0, .slice none 0 0, .int .i64 0, .int .i64 0, .bool false] 34)) := (Below.refl _ _).alloc (Nat.le_refl _) _
  have HZ1 := Lib.hid hz1
  have HB1 := Lib.hid hb1
  have HP := Lib.hid h
  have HN := Lib.hid hn
  clear hz1 hb1 h hn
  by_cases h1 : n = 1
  · subst h1
    obtain ⟨p, rfl⟩ : ∃ p, L = [p] := by
      match L, HN.out with
      | [p], _ => exact ⟨p, rfl⟩
    obtain ⟨P, rfl⟩ : ∃ P, Ls = [P] := by
      have := HP.out.len
      match Ls, this with
      | [p], _ => exact ⟨p, rfl⟩
    have hnode := HP.out.node (kd := 0) (lo := 0) (hi := 0) (neg := false) I64_zero I64_zero I64_zero (by show 1 ≤ _; decide) rfl
    obtain ⟨m, i1, i2, i3⟩ := hnode
    obtain ⟨m', rfl⟩ : ∃ m', m = m' + 1 := by cases m with
      | zero => exact i1.1.elim
      | succ m' => exact ⟨m', rfl⟩
    obtain ⟨_, _, hr, hin⟩ := i1.1
    obtain ⟨b, off, rfl, hlt, hrg⟩ := hr Nat.one_pos
    have hr0 := hrg 0 Nat.one_pos
    have HR : Hid ((w.alloc (.cells #[.int .i64 0, .int .u64 0, .int .u64 0, .int .u64 0, .int .u64 0, .slice none 0 0, .int .i64 0, .int .i64 0, .bool false] 34)).rangeAt b off p.cs) := Lib.hid (range_below (by rw [Nat.zero_mul, Nat.add_zero] at hr0; exact hr0) hlt (Nat.le_refl _) HB1.out)
    have HI : Hid (Tr.Is w H0 H p P) := Lib.hid (by
      obtain ⟨k1, j1, j2⟩ := HP.out.ins
      have := j1 p (by simp)
      exact ⟨k1, this.1, this.2.1, fun k' hk' => by have := j2 k' hk'; simpa using this⟩)
    clear hr hin hrg hr0 i2 i3 hlt
    have hone := Tr.one p
    go_enter Try.func67, Try.ntmps67
    go_wp2_with (first
      | (refine wpList_load_mid rfl 34 _ rfl b off rfl p.cs _ HR.out Try.underlying34 rfl (by rw [Tr.cs_length]; kernel_rfl) ?_)
      | (with_reducible show wpList _ _ _ ({ dst := none, op := .store _ _ _, type := _, pos := _, after := _, guard := _ } :: _) _ _
         refine wpList_store_row rfl 34 _ _ rfl w.heap.size p.cs.toArray rfl rfl 34 Tr.blank.cs.toArray HZ1.out (by kernel_rfl) rfl hone ?_) | fail)
    have hb2 : Below w.heap.size w ((w.alloc (.cells #[.int .i64 0, .int .u64 0, .int .u64 0, .int .u64 0, .int .u64 0, .slice none 0 0, .int .i64 0, .int .i64 0, .bool false] 34)).setRow w.heap.size p.cs.toArray) := HB1.out.trans ((Only.row _ _ _).below (Nat.le_refl _))
    exact bodyPost_ret (results_cell_row Try.results67 _ _ w.heap.size 34 p.cs.toArray (0, 0) _ rfl (HZ1.out.row _) Try.underlying34 rfl (by kernel_rfl)) rfl ⟨p, rfl, HI.out.next hb2, hb2⟩
  · have h1' : ¬ (n : Int) = 1 := by omega
    have h2 := (int_ne h1').1
    have HJ : Hid (joinS k Ls = nodeT k Ls 0 0 false) := Lib.hid (by
      have := HP.out.len
      have := HN.out
      unfold joinS
      match Ls with
      | [] => rfl
      | [x] => simp at *; omega
      | x :: y :: r => rfl)
    have hI := HP.out.node (kd := k) (lo := 0) (hi := 0) (neg := false) (by unfold I64; omega) I64_zero I64_zero (by have := HN.out; omega) HN.out
    have HI := Lib.hid hI
    clear hI h1 h1'
    have hone := Tr.one (.node k ⟨0, 0, 0, 0⟩ A n c L 0 0 false)
    go_enter Try.func67, Try.ntmps67
    go_wp2_with (first
      | (with_reducible show wpList _ _ _ ({ dst := none, op := .store _ _ _, type := _, pos := _, after := _, guard := _ } :: _) _ _
         refine wpList_store_row rfl 34 _ _ rfl w.heap.size (Tr.node k ⟨0, 0, 0, 0⟩ A n c L 0 0 false).cs.toArray rfl rfl 34 Tr.blank.cs.toArray HZ1.out (by kernel_rfl) rfl hone ?_) | fail)
    have hb2 : Below w.heap.size w ((w.alloc (.cells #[.int .i64 0, .int .u64 0, .int .u64 0, .int .u64 0, .int .u64 0, .slice none 0 0, .int .i64 0, .int .i64 0, .bool false] 34)).setRow w.heap.size (Tr.node k ⟨0, 0, 0, 0⟩ A n c L 0 0 false).cs.toArray) := HB1.out.trans ((Only.row _ _ _).below (Nat.le_refl _))
    exact bodyPost_ret (results_cell_row Try.results67 _ _ w.heap.size 34 (Tr.node k ⟨0, 0, 0, 0⟩ A n c L 0 0 false).cs.toArray (0, 0) _ rfl (HZ1.out.row _) Try.underlying34 rfl (by kernel_rfl)) rfl ⟨_, rfl, by rw [HJ.out]; exact HI.out.next hb2, hb2⟩

end Go.Proofs.Ytkbfoelffeocmaa
