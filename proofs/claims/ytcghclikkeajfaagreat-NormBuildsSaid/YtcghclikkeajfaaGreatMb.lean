/- Joined: Table, Blank, One, Then, Either, Both, Any, Look, Tabs, SpansAt. -/
import Derived.Test.YtcghclikkeajfaaGreatMa
import Derived.Laws.MakeOwn
import Derived.Test.YtcghclikkeajfaaGreatProg
import Derived.Deep.OwnRows
import Derived.BigRegion
import Derived.BigQuiet
import Derived.Laws.OwnMore
import Derived.Deep.AppendLies
/- Tables of truths ([][]bool) of the call's own: where they lie, what they say. No program is named here. -/
namespace Go.Proofs.YtcghclikkeajfaaGreat
open Go.RowKit

def tabRows (r : Nat → Nat) (n : Nat) : Array Value := arr n (fun i => .slice (some ⟨r i, 0, none⟩) n n)
def boolRow (f : Nat → Bool) (n : Nat) : Array Value := arr n (fun j => .bool (f j))
/-- While a blank table is made: k rows are there. -/
def someRows (r : Nat → Nat) (n k : Nat) : Array Value := arr n (fun i => if i < k then .slice (some ⟨r i, 0, none⟩) n n else .slice none 0 0)
theorem someRows_zero (r : Nat → Nat) (n : Nat) : someRows r n 0 = madeCells #[.slice none 0 0] n := by
  unfold someRows arr madeCells
  apply Array.ext_getElem?
  intro i
  by_cases hi : i < n <;> simp [hi, Nat.mod_one]
theorem someRows_all (r : Nat → Nat) (n : Nat) : someRows r n n = tabRows r n := arr_congr (fun k hk => by rw [if_pos hk])
theorem someRows_set (r : Nat → Nat) (n k : Nat) : (someRows r n k).setIfInBounds k (.slice (some ⟨r k, 0, none⟩) n n) = someRows r n (k + 1) := by
  unfold someRows
  rw [arr_set]
  apply arr_congr
  intro j _
  by_cases e : j = k
  · subst e; rw [if_pos rfl, if_pos (by omega)]
  · rw [if_neg e]
    by_cases h : j < k
    · rw [if_pos h, if_pos (by omega)]
    · rw [if_neg h, if_neg (by omega)]
theorem boolRow_zero (n : Nat) : boolRow (fun _ => false) n = madeCells #[.bool false] n := by
  unfold boolRow arr madeCells
  apply Array.ext_getElem?
  intro i
  by_cases hi : i < n <;> simp [hi, Nat.mod_one]
theorem boolRow_set (f : Nat → Bool) (n k : Nat) (b : Bool) : (boolRow f n).setIfInBounds k (.bool b) = boolRow (fun j => if j = k then b else f j) n := by
  unfold boolRow
  rw [arr_set]
  apply arr_congr
  intro j _
  by_cases e : j = k
  · simp [e]
  · simp [e]
theorem boolRow_congr {f g : Nat → Bool} {n : Nat} (h : ∀ j, j < n → f j = g j) : boolRow f n = boolRow g n := arr_congr (fun j hj => by rw [h j hj])
/-- A table of n rows, whose blocks lie from base on. -/
structure TabAt (w : World) (E B : TypeId) (base g n : Nat) (r : Nat → Nat) (f : Nat → Nat → Bool) : Prop where
  top : At w g E (tabRows r n)
  low : base ≤ g
  row : ∀ i, i < n → At w (r i) B (boolRow (f i) n)
  rlow : ∀ i, i < n → base ≤ r i ∧ r i ≠ g
  apart : ∀ i j, i < n → j < n → i ≠ j → r i ≠ r j
section
variable {w w' w0 : World} {E B : TypeId} {base g n : Nat} {r : Nat → Nat} {f : Nat → Nat → Bool}
theorem TabAt.same (h : TabAt w E B base g n r f) (e : w0.heap = w.heap) : TabAt w0 E B base g n r f :=
  ⟨by have := h.top; unfold At at this ⊢; rw [e]; exact this, h.low, fun i hi => by have := h.row i hi; unfold At at this ⊢; rw [e]; exact this, h.rlow, h.apart⟩
theorem TabAt.next (h : TabAt w E B base g n r f) (hb : Below w.heap.size w w') : TabAt w' E B base g n r f :=
  ⟨h.top.below hb h.top.lt, h.low, fun i hi => (h.row i hi).below hb (h.row i hi).lt, h.rlow, h.apart⟩
theorem TabAt.step (h : TabAt w E B base g n r f) (hb : Below w0.heap.size w0 w') (e : w0.heap = w.heap) : TabAt w' E B base g n r f := (h.same e).next hb
theorem TabAt.drew (h : TabAt w E B base g n r f) : TabAt w.drew E B base g n r f := h.same (heap_drew w)
theorem TabAt.lower {base' : Nat} (h : TabAt w E B base g n r f) (hb : base' ≤ base) : TabAt w E B base' g n r f :=
  ⟨h.top, Nat.le_trans hb h.low, h.row, fun i hi => ⟨Nat.le_trans hb (h.rlow i hi).1, (h.rlow i hi).2⟩, h.apart⟩
theorem TabAt.congr {f' : Nat → Nat → Bool} (h : TabAt w E B base g n r f) (e : ∀ i j, i < n → j < n → f i j = f' i j) : TabAt w E B base g n r f' :=
  ⟨h.top, h.low, fun i hi => by rw [← boolRow_congr (e i · hi)]; exact h.row i hi, h.rlow, h.apart⟩
theorem TabAt.cellTop (h : TabAt w E B base g n r f) {i : Nat} (hi : i < n) : w.cell? ⟨g, i, none⟩ = some (.slice (some ⟨r i, 0, none⟩) n n) := (h.top.cell i).trans (arr_get _ _ i hi)
theorem TabAt.cellRow (h : TabAt w E B base g n r f) {i j : Nat} (hi : i < n) (hj : j < n) : w.cell? ⟨r i, j, none⟩ = some (.bool (f i j)) := ((h.row i hi).cell j).trans (arr_get _ _ j hj)
theorem TabAt.freeRow (h : TabAt w E B base g n r f) {i : Nat} (hi : i < n) (j : Nat) : w.frozen? ⟨r i, j, none⟩ = false := (h.row i hi).free j
/-- One truth is written. -/
theorem TabAt.put (h : TabAt w E B base g n r f) {i : Nat} (j : Nat) (hi : i < n) (b : Bool) : TabAt (w.setCell ⟨r i, j, none⟩ (.bool b)) E B base g n r (fun i' j' => if i' = i ∧ j' = j then b else f i' j') :=
  ⟨h.top.other (fun e => (h.rlow i hi).2 e.symm) _, h.low, fun i' hi' => by
    by_cases e : i' = i
    · subst e
      have h1 := (h.row i' hi).set j (.bool b)
      rw [boolRow_set] at h1
      have h2 : boolRow (fun j' => if i' = i' ∧ j' = j then b else f i' j') n = boolRow (fun j' => if j' = j then b else f i' j') n := boolRow_congr (fun j' _ => by simp)
      rw [h2]; exact h1
    · have h1 := (h.row i' hi').other (p := ⟨r i, j, none⟩) (h.apart i' i hi' hi e) (.bool b)
      have h2 : boolRow (fun j' => if i' = i ∧ j' = j then b else f i' j') n = boolRow (f i') n := boolRow_congr (fun j' _ => by simp [e])
      rw [h2]; exact h1, h.rlow, h.apart⟩
/-- A write into another block. -/
theorem TabAt.far (h : TabAt w E B base g n r f) {p : Addr} (hp : p.block < base) (v : Value) : TabAt (w.setCell p v) E B base g n r f :=
  ⟨h.top.other (by have := h.low; omega) v, h.low, fun i hi => (h.row i hi).other (by have := (h.rlow i hi).1; omega) v, h.rlow, h.apart⟩
/-- A table that lies ahead of where a call began. -/
def TabIn (w : World) (E B : TypeId) (g n : Nat) (f : Nat → Nat → Bool) : Prop := ∃ r, TabAt w E B 0 g n r f
theorem TabIn.next (h : TabIn w E B g n f) (hb : Below w.heap.size w w') : TabIn w' E B g n f := by obtain ⟨r, h⟩ := h; exact ⟨r, h.next hb⟩
end
/-- A table that is filled row by row: where (i, j) is reached. -/
def fillTo (F : Nat → Nat → Bool) (i j : Nat) (i' j' : Nat) : Bool := if i' < i ∨ (i' = i ∧ j' < j) then F i' j' else false
section
variable {w : World} {E B : TypeId} {base g n : Nat} {r : Nat → Nat} {F : Nat → Nat → Bool} {i j : Nat}
theorem TabAt.fillStart (h : TabAt w E B base g n r (fun _ _ => false)) : TabAt w E B base g n r (fillTo F 0 0) := h.congr (fun i j _ _ => by simp [fillTo])
theorem TabAt.fillStep (h : TabAt w E B base g n r (fillTo F i j)) (hi : i < n) {v : Bool} (hv : v = F i j) : TabAt (w.setCell ⟨r i, j, none⟩ (.bool v)) E B base g n r (fillTo F i (j + 1)) :=
  (h.put j hi v).congr (fun i' j' _ _ => by
    unfold fillTo
    by_cases e : i' = i ∧ j' = j
    · obtain ⟨rfl, rfl⟩ := e
      simp [hv]
    · rw [if_neg e]
      by_cases c : i' < i ∨ (i' = i ∧ j' < j)
      · rw [if_pos c, if_pos (by omega)]
      · rw [if_neg c, if_neg (by omega)])
theorem TabAt.fillSkip (h : TabAt w E B base g n r (fillTo F i 0)) (hF : ∀ j', j' < j → F i j' = false) : TabAt w E B base g n r (fillTo F i j) := h.congr (fun i' j' _ _ => by
  unfold fillTo
  by_cases c : i' < i
  · rw [if_pos (by omega), if_pos (by omega)]
  · rw [if_neg (by omega)]
    by_cases c2 : i' = i ∧ j' < j
    · obtain ⟨rfl, h2⟩ := c2
      rw [if_pos (by omega), hF j' h2]
    · rw [if_neg (by omega)])
theorem TabAt.fillRow (h : TabAt w E B base g n r (fillTo F i n)) : TabAt w E B base g n r (fillTo F (i + 1) 0) := h.congr (fun i' j' _ hj => by
  unfold fillTo
  by_cases c : i' < i ∨ (i' = i ∧ j' < n)
  · rw [if_pos c, if_pos (by omega)]
  · rw [if_neg c, if_neg (by omega)])
theorem TabAt.fillEnd (h : TabAt w E B base g n r (fillTo F n 0)) : TabAt w E B base g n r F := h.congr (fun i' j' hi _ => by
  unfold fillTo; rw [if_pos (by omega)])
end

end Go.Proofs.YtcghclikkeajfaaGreat

/- What the reference's Blank and One answer. -/
namespace Go.Proofs.YtcghclikkeajfaaGreat
open Go.RowKit

theorem info_row : (Tryz.prog.info? 63).map (fun i => (i.zero, i.size, i.bytes)) = some (some (.slice none 0 0), 1, 24) := by kernel_rfl
theorem info_bool : (Tryz.prog.info? 4).map (fun i => (i.zero, i.size, i.bytes)) = some (some (.bool false), 1, 1) := by kernel_rfl
theorem make_tab (n : Nat) (hn : n ≤ 1000) (w : World) : (Instr.makeSlice 42 (.int .i64 (n : Int)) (.int .i64 (n : Int))).run Tryz.prog w = .ok (.slice (some ⟨w.heap.size, 0, none⟩) n n) (w.alloc (.cells (someRows (fun i => w.heap.size + 1 + i) n 0) 63)) := by
  rw [someRows_zero]
  exact run_make_row' 42 63 (.slice none 0 0) 24 Tryz.underlying42 info_row rfl .i64 .i64 n (by omega) (by omega) w
theorem make_row (n : Nat) (hn : n ≤ 1000) (w : World) : (Instr.makeSlice 63 (.int .i64 (n : Int)) (.int .i64 (n : Int))).run Tryz.prog w = .ok (.slice (some ⟨w.heap.size, 0, none⟩) n n) (w.alloc (.cells (boolRow (fun _ => false) n) 4)) := by
  rw [boolRow_zero]
  exact run_make_row' 63 4 (.bool false) 1 Tryz.underlying63 info_bool rfl .i64 .i64 n (by omega) (by omega) w

set_option maxRecDepth 100000 in
set_option maxHeartbeats 2000000 in
theorem refBlank (n : Nat) (hn : n ≤ 1000) (w : World) :
    Calls Tryz.prog 28 #[.int .i64 n] w fun e w' => e = .returned (.slice (some ⟨w.heap.size, 0, none⟩) n n) ∧ TabAt w' 63 4 w.heap.size w.heap.size n (fun i => w.heap.size + 1 + i) (fun _ _ => false) ∧ Below w.heap.size w w' := by
  have hm1 := make_tab n hn
  have hm2 := make_row n hn
  go_enter Tryz.func28, Tryz.ntmps28
  go_wp2_with fail
  clear hm1
  go_loopw [9] (fun i wr => ∃ k : Nat, k ≤ n ∧ i = .int .i64 k ∧ wr.heap.size = w.heap.size + 1 + k ∧ Hid (At wr w.heap.size 63 (someRows (fun i => w.heap.size + 1 + i) n k)) ∧ Hid (∀ i, i < k → At wr (w.heap.size + 1 + i) 4 (boolRow (fun _ => false) n)) ∧ Hid (Below w.heap.size w wr)) (fun i _ => n - (intOf i).toNat)
  case atStart => exact ⟨0, Nat.zero_le _, rfl, by simp, Lib.hid (At.new _ _ _), Lib.hid (fun i hi => absurd hi (Nat.not_lt_zero _)), Lib.hid ((Below.refl _ _).alloc (Nat.le_refl _) _)⟩
  case round =>
    obtain ⟨k, hk, rfl, hsz, hT, hR, hB⟩ := hrel
    by_cases hlt : k < n
    · have hcell := hT.out.cell k
      unfold someRows at hcell
      rw [arr_get _ _ k hlt, if_neg (Nat.lt_irrefl k)] at hcell
      have hfree := hT.out.free k
      have hgl := hT.out.lt
      have HSz := Lib.hid hsz
      clear hsz
      have hkz : (0 : Int) ≤ (k : Int) := by omega
      have hkn : (k : Int) < (n : Int) := by omega
      go_wp2_with fail
      refine ⟨⟨k + 1, by omega, by go_num, ?_, ?_, ?_, ?_⟩, by simp [intOf]; omega⟩
      · have := HSz.out; simp; omega
      · have h := (hT.out.set k (.slice (some ⟨wr.heap.size, 0, none⟩) n n)).alloc (.cells (boolRow (fun _ => false) n) 4)
        rw [show wr.heap.size = (fun i => w.heap.size + 1 + i) k from HSz.out, someRows_set] at h
        have e : wr.heap.size = w.heap.size + 1 + k := HSz.out
        rw [e]; exact Lib.hid h
      · refine Lib.hid (fun i hi => ?_)
        by_cases e : i = k
        · subst e
          exact at_new' _ _ _ (by have := HSz.out; simp; omega)
        · exact ((hR.out i (by omega)).other (by dsimp only; omega) _).alloc _
      · exact Lib.hid ((hB.out.setCell (by dsimp only; omega) _).alloc (by have := hB.out.size; simp; omega) _)
    · obtain rfl : k = n := by omega
      have ht := hT.out
      rw [someRows_all] at ht
      have HT := Lib.hid ht
      clear ht hsz
      go_wp2_with fail
      go_ret
      exact ⟨rfl, ⟨HT.out, Nat.le_refl _, fun i hi => hR.out i hi, fun i hi => ⟨by omega, by omega⟩, fun i j _ _ h => by omega⟩, hB.out⟩
/-- A new table says f. -/
def Tabled (w : World) (n : Nat) (f : Nat → Nat → Bool) (e : Ending) (w' : World) : Prop := ∃ g r, e = .returned (.slice (some ⟨g, 0, none⟩) n n) ∧ TabAt w' 63 4 w.heap.size g n r f ∧ Below w.heap.size w w'
abbrev TIn (w : World) (g n : Nat) (f : Nat → Nat → Bool) : Prop := TabIn w 63 4 g n f

end Go.Proofs.YtcghclikkeajfaaGreat

/- What the reference's One and Other answer. -/
namespace Go.Proofs.YtcghclikkeajfaaGreat
open Go.RowKit
set_option linter.unusedVariables false

set_option maxRecDepth 100000 in
set_option maxHeartbeats 2000000 in
theorem refOne (n : Nat) (hn : n ≤ 1000) (w : World) :
    Calls Tryz.prog 29 #[.int .i64 n] w (Tabled w n (fun i j => decide (i = j))) := by
  go_enter Tryz.func29, Tryz.ntmps29
  go_wp2_with fail
  refine (refBlank n hn _).mono ?_
  rintro e w1 ⟨rfl, ht1, hb1⟩
  obtain ⟨g, hg⟩ : ∃ g, g = w.heap.size := ⟨_, rfl⟩
  obtain ⟨r, hr⟩ : ∃ r : Nat → Nat, r = (fun i => w.heap.size + 1 + i) := ⟨_, rfl⟩
  rw [← hr] at ht1
  clear hr
  have hT1 : Hid (TabAt w1 63 4 w.heap.size g n r (fun i' j' => decide (i' = j' ∧ i' < 0))) := by rw [hg]; exact ht1.congr (fun i j _ _ => by simp)
  have HB1 := Lib.hid hb1
  clear ht1 hb1
  rw [← hg]
  clear hg
  go_wp2_with fail
  go_loopw [9] (fun x wr => ∃ i : Nat, i ≤ n ∧ x = .int .i64 i ∧ Hid (TabAt wr 63 4 w.heap.size g n r (fun i' j' => decide (i' = j' ∧ i' < i))) ∧ Hid (Below w.heap.size w wr)) (fun x _ => n - (intOf x).toNat)
  case atStart => exact ⟨0, Nat.zero_le _, rfl, hT1, HB1⟩
  case round =>
    obtain ⟨i, hi, rfl, hT, hB⟩ := hrel
    by_cases hlt : i < n
    · have hi0 : (0 : Int) ≤ (i : Int) := by omega
      have hin : (i : Int) < (n : Int) := by omega
      have q5 := hT.out.cellTop hlt
      have q6 := hT.out.cellRow hlt hlt
      have q7 := hT.out.freeRow hlt i
      go_wp2_with fail
      refine ⟨⟨i + 1, by omega, by go_num, ?_, ?_⟩, by simp [intOf]; omega⟩
      · exact Lib.hid ((hT.out.put i hlt true).congr (fun i' j' _ _ => by
          by_cases e : i' = i ∧ j' = i
          · obtain ⟨rfl, rfl⟩ := e; simp
          · rw [if_neg e, Bool.eq_iff_iff]; simp only [decide_eq_true_eq]; omega))
      · exact Lib.hid (hB.out.setCell (by have := (hT.out.rlow i hlt).1; exact this) _)
    · obtain rfl : i = n := by omega
      go_wp2_with fail
      go_ret
      exact ⟨g, r, rfl, hT.out.congr (fun i' j' h1 _ => by rw [Bool.eq_iff_iff]; simp only [decide_eq_true_eq]; omega), hB.out⟩

/-- All spans that aren't a's. -/
def otherF (fa : Nat → Nat → Bool) (i j : Nat) : Bool := decide (i ≤ j) && !fa i j
theorem otherF_low {fa : Nat → Nat → Bool} {i j : Nat} (h : j < i) : otherF fa i j = false := by unfold otherF; rw [decide_eq_false (by omega), Bool.false_and]
theorem otherF_at {fa : Nat → Nat → Bool} {i j : Nat} (h : i ≤ j) : otherF fa i j = !fa i j := by unfold otherF; rw [decide_eq_true h, Bool.true_and]

set_option maxRecDepth 100000 in
set_option maxHeartbeats 4000000 in
theorem refOther (n ga : Nat) (fa : Nat → Nat → Bool) (hn : n ≤ 1000) (w : World) (ha : TIn w ga n fa) :
    Calls Tryz.prog 34 #[.slice (some ⟨ga, 0, none⟩) n n] w (Tabled w n (otherF fa)) := by
  obtain ⟨ra, ha⟩ := ha
  have HA := Lib.hid ha
  clear ha
  go_enter Tryz.func34, Tryz.ntmps34
  go_wp2_with fail
  refine (refBlank n hn _).mono ?_
  rintro e w1 ⟨rfl, ht1, hb1⟩
  obtain ⟨g, hg⟩ : ∃ g, g = w.heap.size := ⟨_, rfl⟩
  obtain ⟨r, hr⟩ : ∃ r : Nat → Nat, r = (fun i => w.heap.size + 1 + i) := ⟨_, rfl⟩
  rw [← hr] at ht1
  clear hr
  have hT1 : Hid (TabAt w1 63 4 w.heap.size g n r (fillTo (otherF fa) 0 0)) := by rw [hg]; exact ht1.fillStart
  have HB1 := Lib.hid hb1
  clear ht1 hb1
  rw [← hg]
  clear hg
  go_wp2_with fail
  go_loopw [11] (fun x wr => ∃ i : Nat, i ≤ n ∧ x = .int .i64 i ∧ Hid (TabAt wr 63 4 w.heap.size g n r (fillTo (otherF fa) i 0)) ∧ Hid (Below w.heap.size w wr)) (fun x _ => n - (intOf x).toNat)
  case atStart => exact ⟨0, Nat.zero_le _, rfl, hT1, HB1⟩
  case round =>
    obtain ⟨i, hi, rfl, hT, hB⟩ := hrel
    by_cases hlt : i < n
    · have hd1 : decide ((i : Int) < (n : Int)) = true := dec_t (by omega)
      have hd2 : (i : Int) < (n : Int) := by omega
      have hi0 : (0 : Int) ≤ (i : Int) := by omega
      go_wp2_with fail
      go_loopw [5] (fun x wr => ∃ j : Nat, i ≤ j ∧ j ≤ n ∧ x = .int .i64 j ∧ Hid (TabAt wr 63 4 w.heap.size g n r (fillTo (otherF fa) i j)) ∧ Hid (Below w.heap.size w wr)) (fun x _ => n - (intOf x).toNat)
      case atStart => exact ⟨i, Nat.le_refl _, hi, rfl, Lib.hid (hT.out.fillSkip (fun j' hj' => otherF_low hj')), hB⟩
      case round =>
        clear hT hB
        obtain ⟨j, hij, hj, rfl, hT, hB⟩ := hrel
        by_cases hltj : j < n
        · have hA := (HA.out.next hB.out)
          have q1 := hA.cellTop hlt
          have q2 := hA.cellRow hlt hltj
          have q5 := hT.out.cellTop hlt
          have q6 := hT.out.cellRow hlt hltj
          have q7 := hT.out.freeRow hlt j
          obtain ⟨old, hold⟩ : ∃ v : Bool, fillTo (otherF fa) i j i j = v := ⟨_, rfl⟩
          rw [hold] at q6
          clear hold
          have hj0 : (0 : Int) ≤ (j : Int) := by omega
          have hjn : (j : Int) < (n : Int) := by omega
          have hdj : decide ((j : Int) < (n : Int)) = true := dec_t hjn
          clear hA
          go_wp2_with fail
          go_region
          go_wp2_with fail
          go_roundw
          case rel => exact ⟨j + 1, by omega, by omega, by go_num, Lib.hid (TabAt.drew (hT.out.fillStep hlt (by rw [otherF_at hij]))), Lib.hid (Below.drew (hB.out.setCell (by have := (hT.out.rlow i hlt).1; exact this) _))⟩
          case measure => simp [intOf]; omega
        · obtain rfl : j = n := by omega
          go_wp2_with fail
          go_roundw
          case rel => exact ⟨i + 1, by omega, by go_num, Lib.hid hT.out.fillRow, hB⟩
          case measure => simp [intOf]; omega
    · obtain rfl : i = n := by omega
      go_wp2_with fail
      go_ret
      exact ⟨g, r, rfl, hT.out.fillEnd, hB.out⟩

end Go.Proofs.YtcghclikkeajfaaGreat

/- What the reference's Then answers. -/
namespace Go.Proofs.YtcghclikkeajfaaGreat
open Go.RowKit
set_option linter.unusedVariables false

/-- The spans of one behind the other, by a place between that is below k. -/
def thenPart (fa fb : Nat → Nat → Bool) (i k j : Nat) : Bool := (List.range k).any (fun m => decide (i ≤ m ∧ m ≤ j) && (fa i m && fb m j))
def thenF (fa fb : Nat → Nat → Bool) (n i j : Nat) : Bool := thenPart fa fb i n j
section
variable {fa fb : Nat → Nat → Bool} {i k j n i' j' : Nat}
theorem thenPart_succ : thenPart fa fb i (k + 1) j = (thenPart fa fb i k j || (decide (i ≤ k ∧ k ≤ j) && (fa i k && fb k j))) := by
  unfold thenPart; rw [List.range_succ, List.any_append]; simp
theorem thenPart_start : thenPart fa fb i i j = false := by
  unfold thenPart; rw [List.any_eq_false]
  intro m hm
  have : m < i := by simpa using hm
  rw [decide_eq_false (by omega)]; simp
theorem thenPart_no (h : fa i k = false) : thenPart fa fb i (k + 1) j = thenPart fa fb i k j := by rw [thenPart_succ, h]; simp
/-- How far 'Then' has come: rows before i whole, of row i the places between below k. -/
def thenTo (fa fb : Nat → Nat → Bool) (n i k : Nat) (i' j' : Nat) : Bool := if i' < i then thenF fa fb n i' j' else if i' = i then thenPart fa fb i k j' else false
/-- .. and of place k the ends below j. -/
def thenTo2 (fa fb : Nat → Nat → Bool) (n i k j : Nat) (i' j' : Nat) : Bool := if i' = i ∧ k ≤ j' ∧ j' < j then thenPart fa fb i k j' || fb k j' else thenTo fa fb n i k i' j'
theorem thenTo_start : thenTo fa fb n i i i' j' = if i' < i then thenF fa fb n i' j' else false := by
  unfold thenTo
  by_cases h : i' < i
  · rw [if_pos h, if_pos h]
  · rw [if_neg h, if_neg h]
    by_cases e : i' = i
    · rw [if_pos e, thenPart_start]
    · rw [if_neg e]
theorem thenTo_next : thenTo fa fb n i n i' j' = if i' < i + 1 then thenF fa fb n i' j' else false := by
  unfold thenTo
  by_cases h : i' < i
  · rw [if_pos h, if_pos (by omega)]
  · rw [if_neg h]
    by_cases e : i' = i
    · subst e; rw [if_pos rfl, if_pos (by omega)]; rfl
    · rw [if_neg e, if_neg (by omega)]
theorem thenTo_no (h : fa i k = false) : thenTo fa fb n i (k + 1) i' j' = thenTo fa fb n i k i' j' := by unfold thenTo; rw [thenPart_no h]
theorem thenTo2_start : thenTo2 fa fb n i k k i' j' = thenTo fa fb n i k i' j' := by unfold thenTo2; rw [if_neg (by omega)]
theorem thenTo2_end (hik : i ≤ k) (h : fa i k = true) (hj : j' < n) : thenTo2 fa fb n i k n i' j' = thenTo fa fb n i (k + 1) i' j' := by
  unfold thenTo2 thenTo
  by_cases e : i' = i
  · subst e
    by_cases hk : k ≤ j'
    · rw [if_pos ⟨rfl, hk, hj⟩, if_neg (Nat.lt_irrefl _), if_pos rfl, thenPart_succ, h, decide_eq_true ⟨hik, hk⟩]; simp
    · rw [if_neg (by omega), if_neg (Nat.lt_irrefl _), if_pos rfl, if_neg (Nat.lt_irrefl _), if_pos rfl, thenPart_succ, decide_eq_false (by omega)]; simp
  · rw [if_neg (fun q => e q.1), if_neg e, if_neg e]
theorem thenTo2_at (hk : k ≤ j) : thenTo2 fa fb n i k j i j = thenPart fa fb i k j := by
  unfold thenTo2 thenTo
  rw [if_neg (by omega), if_neg (Nat.lt_irrefl _), if_pos rfl]
theorem thenTo2_step (hk : k ≤ j) : (if i' = i ∧ j' = j then thenPart fa fb i k j || fb k j else thenTo2 fa fb n i k j i' j') = thenTo2 fa fb n i k (j + 1) i' j' := by
  by_cases e : i' = i ∧ j' = j
  · obtain ⟨rfl, rfl⟩ := e
    unfold thenTo2
    rw [if_pos ⟨rfl, rfl⟩, if_pos ⟨rfl, hk, by omega⟩]
  · rw [if_neg e]
    unfold thenTo2
    by_cases c : i' = i ∧ k ≤ j' ∧ j' < j
    · rw [if_pos c, if_pos ⟨c.1, c.2.1, by omega⟩]
    · rw [if_neg c, if_neg (by omega)]
end

set_option maxRecDepth 100000 in
set_option maxHeartbeats 8000000 in
theorem refThen (n ga gb : Nat) (fa fb : Nat → Nat → Bool) (hn : n ≤ 1000) (w : World) (ha : TIn w ga n fa) (hb : TIn w gb n fb) :
    Calls Tryz.prog 31 #[.slice (some ⟨ga, 0, none⟩) n n, .slice (some ⟨gb, 0, none⟩) n n] w (Tabled w n (thenF fa fb n)) := by
  obtain ⟨ra, ha⟩ := ha
  obtain ⟨rb, hb⟩ := hb
  have HA := Lib.hid ha
  have HB := Lib.hid hb
  clear ha hb
  go_enter Tryz.func31, Tryz.ntmps31
  go_wp2_with fail
  refine (refBlank n hn _).mono ?_
  rintro e w1 ⟨rfl, ht1, hb1⟩
  obtain ⟨g, hg⟩ : ∃ g, g = w.heap.size := ⟨_, rfl⟩
  obtain ⟨r, hr⟩ : ∃ r : Nat → Nat, r = (fun i => w.heap.size + 1 + i) := ⟨_, rfl⟩
  rw [← hr] at ht1
  clear hr
  have hT1 : Hid (TabAt w1 63 4 w.heap.size g n r (thenTo fa fb n 0 0)) := by rw [hg]; exact ht1.congr (fun i' j' _ _ => by rw [thenTo_start, if_neg (Nat.not_lt_zero _)])
  have HB1 := Lib.hid hb1
  clear ht1 hb1
  rw [← hg]
  clear hg
  go_wp2_with fail
  go_loopw [14] (fun x wr => ∃ i : Nat, i ≤ n ∧ x = .int .i64 i ∧ Hid (TabAt wr 63 4 w.heap.size g n r (thenTo fa fb n i i)) ∧ Hid (Below w.heap.size w wr)) (fun x _ => n - (intOf x).toNat)
  case atStart => exact ⟨0, Nat.zero_le _, rfl, hT1, HB1⟩
  case round =>
    obtain ⟨i, hi, rfl, hT, hB⟩ := hrel
    by_cases hlt : i < n
    · have hd1 : decide ((i : Int) < (n : Int)) = true := dec_t (by omega)
      have hd2 : (i : Int) < (n : Int) := by omega
      have hi0 : (0 : Int) ≤ (i : Int) := by omega
      go_wp2_with fail
      go_loopw [7] (fun x wr => ∃ k : Nat, i ≤ k ∧ k ≤ n ∧ x = .int .i64 k ∧ Hid (TabAt wr 63 4 w.heap.size g n r (thenTo fa fb n i k)) ∧ Hid (Below w.heap.size w wr)) (fun x _ => n - (intOf x).toNat)
      case atStart => exact ⟨i, Nat.le_refl _, hi, rfl, hT, hB⟩
      case round =>
        clear hT hB
        obtain ⟨k, hik, hk, rfl, hT, hB⟩ := hrel
        by_cases hltk : k < n
        · have hdk : decide ((k : Int) < (n : Int)) = true := dec_t (by omega)
          have hdk2 : (k : Int) < (n : Int) := by omega
          have hk0 : (0 : Int) ≤ (k : Int) := by omega
          obtain ⟨x, hx⟩ : ∃ x : Bool, fa i k = x := ⟨_, rfl⟩
          have HX := Lib.hid hx
          clear hx
          have hT2 : Hid (TabAt wr 63 4 w.heap.size g n r (thenTo2 fa fb n i k k)) := hT.out.congr (fun i' j' _ _ => thenTo2_start.symm)
          go_wp2_with fail
          go_loopw [8] (fun x wr => ∃ j : Nat, k ≤ j ∧ j ≤ n ∧ (fa i k = false → j = k) ∧ x = .int .i64 j ∧ Hid (TabAt wr 63 4 w.heap.size g n r (thenTo2 fa fb n i k j)) ∧ Hid (Below w.heap.size w wr)) (fun x _ => n - (intOf x).toNat)
          case atStart => exact ⟨k, Nat.le_refl _, hk, fun _ => rfl, rfl, hT2, hB⟩
          case round =>
            clear hT hB hT2
            obtain ⟨j, hkj, hj, hjk, rfl, hT, hB⟩ := hrel
            have HJK := Lib.hid hjk
            clear hjk
            by_cases hltj : j < n
            · have hA := (HA.out.next hB.out)
              have hBb := (HB.out.next hB.out)
              have q1 := hA.cellTop hlt
              have q2 := hA.cellRow hlt hltk
              rw [HX.out] at q2
              have q3 := hBb.cellTop hltk
              have q4 := hBb.cellRow hltk hltj
              have q5 := hT.out.cellTop hlt
              have q6 := hT.out.cellRow hlt hltj
              rw [thenTo2_at hkj] at q6
              have q7 := hT.out.freeRow hlt j
              have hj0 : (0 : Int) ≤ (j : Int) := by omega
              have hjn : (j : Int) < (n : Int) := by omega
              have hdj : decide ((j : Int) < (n : Int)) = true := dec_t hjn
              clear hA hBb
              cases x
              · -- nothing from i to k: the inner loop ends at once
                go_wp2_with fail
                go_roundw
                case rel => exact ⟨k + 1, by omega, by omega, by go_num, Lib.hid (hT.out.congr (fun i' j' _ _ => by rw [HJK.out HX.out, thenTo2_start, thenTo_no HX.out])), hB⟩
                case measure => simp [intOf]; omega
              · obtain ⟨y, hy⟩ : ∃ y : Bool, thenPart fa fb i k j = y := ⟨_, rfl⟩
                obtain ⟨z, hz⟩ : ∃ z : Bool, fb k j = z := ⟨_, rfl⟩
                rw [hy] at q6
                rw [hz] at q4
                have HY := Lib.hid hy
                have HZ := Lib.hid hz
                clear hy hz
                cases y
                · go_wp2_with fail
                  go_region
                  go_wp2_with fail
                  go_roundw
                  case rel => exact ⟨j + 1, by omega, by omega, (fun h => by rw [HX.out] at h; cases h), by go_num, Lib.hid (TabAt.drew ((hT.out.put j hlt z).congr (fun i' j' _ _ => by rw [← thenTo2_step hkj, HY.out, HZ.out, Bool.false_or]))), Lib.hid (Below.drew (hB.out.setCell (by have := (hT.out.rlow i hlt).1; exact this) _))⟩
                  case measure => simp [intOf]; omega
                · go_wp2_with fail
                  go_region
                  go_wp2_with fail
                  go_roundw
                  case rel => exact ⟨j + 1, by omega, by omega, (fun h => by rw [HX.out] at h; cases h), by go_num, Lib.hid (TabAt.drew ((hT.out.put j hlt true).congr (fun i' j' _ _ => by rw [← thenTo2_step hkj, HY.out, Bool.true_or]))), Lib.hid (Below.drew (hB.out.setCell (by have := (hT.out.rlow i hlt).1; exact this) _))⟩
                  case measure => simp [intOf]; omega
            · obtain rfl : j = n := by omega
              have hdj : decide ((j : Int) < (j : Int)) = false := dec_f (by omega)
              go_wp2_with fail
              go_roundw
              case rel =>
                refine ⟨k + 1, by omega, by omega, by go_num, Lib.hid (hT.out.congr (fun i' j' _ hj' => ?_)), hB⟩
                cases x
                · exact absurd (HJK.out HX.out) (by omega)
                · exact thenTo2_end hik HX.out hj'
              case measure => simp [intOf]; omega
        · obtain rfl : k = n := by omega
          go_wp2_with fail
          go_roundw
          case rel => exact ⟨i + 1, by omega, by go_num, Lib.hid (hT.out.congr (fun i' j' _ _ => by rw [thenTo_next, thenTo_start])), hB⟩
          case measure => simp [intOf]; omega
    · obtain rfl : i = n := by omega
      go_wp2_with fail
      go_ret
      exact ⟨g, r, rfl, hT.out.congr (fun i' j' h1 _ => by rw [thenTo_start, if_pos h1]), hB.out⟩

end Go.Proofs.YtcghclikkeajfaaGreat

/- What the reference's Either answers. -/
namespace Go.Proofs.YtcghclikkeajfaaGreat
open Go.RowKit
set_option linter.unusedVariables false

set_option maxRecDepth 100000 in
set_option maxHeartbeats 4000000 in
theorem refEither (n ga gb : Nat) (fa fb : Nat → Nat → Bool) (hn : n ≤ 1000) (w : World) (ha : TIn w ga n fa) (hb : TIn w gb n fb) :
    Calls Tryz.prog 32 #[.slice (some ⟨ga, 0, none⟩) n n, .slice (some ⟨gb, 0, none⟩) n n] w (Tabled w n (fun i j => fa i j || fb i j)) := by
  obtain ⟨ra, ha⟩ := ha
  obtain ⟨rb, hb⟩ := hb
  have HA := Lib.hid ha
  have HB := Lib.hid hb
  clear ha hb
  go_enter Tryz.func32, Tryz.ntmps32
  go_wp2_with fail
  refine (refBlank n hn _).mono ?_
  rintro e w1 ⟨rfl, ht1, hb1⟩
  obtain ⟨g, hg⟩ : ∃ g, g = w.heap.size := ⟨_, rfl⟩
  obtain ⟨r, hr⟩ : ∃ r : Nat → Nat, r = (fun i => w.heap.size + 1 + i) := ⟨_, rfl⟩
  rw [← hr] at ht1
  clear hr
  have hT1 : Hid (TabAt w1 63 4 w.heap.size g n r (fillTo (fun i j => fa i j || fb i j) 0 0)) := by rw [hg]; exact ht1.fillStart
  have HB1 := Lib.hid hb1
  clear ht1 hb1
  rw [← hg]
  clear hg
  go_wp2_with fail
  go_loopw [13] (fun x wr => ∃ i : Nat, i ≤ n ∧ x = .int .i64 i ∧ Hid (TabAt wr 63 4 w.heap.size g n r (fillTo (fun i j => fa i j || fb i j) i 0)) ∧ Hid (Below w.heap.size w wr)) (fun x _ => n - (intOf x).toNat)
  case atStart => exact ⟨0, Nat.zero_le _, rfl, hT1, HB1⟩
  case round =>
    obtain ⟨i, hi, rfl, hT, hB⟩ := hrel
    by_cases hlt : i < n
    · have hd1 : decide ((i : Int) < (n : Int)) = true := dec_t (by omega)
      have hd2 : (i : Int) < (n : Int) := by omega
      have hi0 : (0 : Int) ≤ (i : Int) := by omega
      go_wp2_with fail
      go_loopw [18] (fun x wr => ∃ j : Nat, j ≤ n ∧ x = .int .i64 j ∧ Hid (TabAt wr 63 4 w.heap.size g n r (fillTo (fun i j => fa i j || fb i j) i j)) ∧ Hid (Below w.heap.size w wr)) (fun x _ => n - (intOf x).toNat)
      case atStart => exact ⟨0, Nat.zero_le _, rfl, hT, hB⟩
      case round =>
        clear hT hB
        obtain ⟨j, hj, rfl, hT, hB⟩ := hrel
        by_cases hltj : j < n
        · have hA := (HA.out.next hB.out)
          have hBb := (HB.out.next hB.out)
          have q1 := hA.cellTop hlt
          have q2 := hA.cellRow hlt hltj
          have q3 := hBb.cellTop hlt
          have q4 := hBb.cellRow hlt hltj
          have q5 := hT.out.cellTop hlt
          have q6 := hT.out.cellRow hlt hltj
          have q7 := hT.out.freeRow hlt j
          obtain ⟨old, hold⟩ : ∃ v : Bool, fillTo (fun i j => fa i j || fb i j) i j i j = v := ⟨_, rfl⟩
          simp only [hold] at q6
          clear hold
          have hj0 : (0 : Int) ≤ (j : Int) := by omega
          have hjn : (j : Int) < (n : Int) := by omega
          clear hA hBb
          obtain ⟨x, hx⟩ : ∃ x : Bool, fa i j = x := ⟨_, rfl⟩
          obtain ⟨y, hy⟩ : ∃ y : Bool, fb i j = y := ⟨_, rfl⟩
          rw [hx] at q2
          rw [hy] at q4
          have HX := Lib.hid hx
          have HY := Lib.hid hy
          clear hx hy
          cases x
          · go_wp2_with fail
            go_region
            go_wp2_with fail
            go_roundw
            case rel => exact ⟨j + 1, by omega, by go_num, Lib.hid (TabAt.drew (hT.out.fillStep hlt (by rw [HX.out, HY.out]; rfl))), Lib.hid (Below.drew (hB.out.setCell (by have := (hT.out.rlow i hlt).1; exact this) _))⟩
            case measure => simp [intOf]; omega
          · go_wp2_with fail
            go_region
            go_wp2_with fail
            go_roundw
            case rel => exact ⟨j + 1, by omega, by go_num, Lib.hid (TabAt.drew (hT.out.fillStep hlt (by rw [HX.out, HY.out]; rfl))), Lib.hid (Below.drew (hB.out.setCell (by have := (hT.out.rlow i hlt).1; exact this) _))⟩
            case measure => simp [intOf]; omega
        · obtain rfl : j = n := by omega
          go_wp2_with fail
          go_roundw
          case rel => exact ⟨i + 1, by omega, by go_num, Lib.hid hT.out.fillRow, hB⟩
          case measure => simp [intOf]; omega
    · obtain rfl : i = n := by omega
      go_wp2_with fail
      go_ret
      exact ⟨g, r, rfl, hT.out.fillEnd, hB.out⟩

end Go.Proofs.YtcghclikkeajfaaGreat

/- What the reference's Both answers. -/
namespace Go.Proofs.YtcghclikkeajfaaGreat
open Go.RowKit
set_option linter.unusedVariables false

set_option maxRecDepth 100000 in
set_option maxHeartbeats 4000000 in
theorem refBoth (n ga gb : Nat) (fa fb : Nat → Nat → Bool) (hn : n ≤ 1000) (w : World) (ha : TIn w ga n fa) (hb : TIn w gb n fb) :
    Calls Tryz.prog 33 #[.slice (some ⟨ga, 0, none⟩) n n, .slice (some ⟨gb, 0, none⟩) n n] w (Tabled w n (fun i j => fa i j && fb i j)) := by
  obtain ⟨ra, ha⟩ := ha
  obtain ⟨rb, hb⟩ := hb
  have HA := Lib.hid ha
  have HB := Lib.hid hb
  clear ha hb
  go_enter Tryz.func33, Tryz.ntmps33
  go_wp2_with fail
  refine (refBlank n hn _).mono ?_
  rintro e w1 ⟨rfl, ht1, hb1⟩
  obtain ⟨g, hg⟩ : ∃ g, g = w.heap.size := ⟨_, rfl⟩
  obtain ⟨r, hr⟩ : ∃ r : Nat → Nat, r = (fun i => w.heap.size + 1 + i) := ⟨_, rfl⟩
  rw [← hr] at ht1
  clear hr
  have hT1 : Hid (TabAt w1 63 4 w.heap.size g n r (fillTo (fun i j => fa i j && fb i j) 0 0)) := by rw [hg]; exact ht1.fillStart
  have HB1 := Lib.hid hb1
  clear ht1 hb1
  rw [← hg]
  clear hg
  go_wp2_with fail
  go_loopw [13] (fun x wr => ∃ i : Nat, i ≤ n ∧ x = .int .i64 i ∧ Hid (TabAt wr 63 4 w.heap.size g n r (fillTo (fun i j => fa i j && fb i j) i 0)) ∧ Hid (Below w.heap.size w wr)) (fun x _ => n - (intOf x).toNat)
  case atStart => exact ⟨0, Nat.zero_le _, rfl, hT1, HB1⟩
  case round =>
    obtain ⟨i, hi, rfl, hT, hB⟩ := hrel
    by_cases hlt : i < n
    · have hd1 : decide ((i : Int) < (n : Int)) = true := dec_t (by omega)
      have hd2 : (i : Int) < (n : Int) := by omega
      have hi0 : (0 : Int) ≤ (i : Int) := by omega
      go_wp2_with fail
      go_loopw [18] (fun x wr => ∃ j : Nat, j ≤ n ∧ x = .int .i64 j ∧ Hid (TabAt wr 63 4 w.heap.size g n r (fillTo (fun i j => fa i j && fb i j) i j)) ∧ Hid (Below w.heap.size w wr)) (fun x _ => n - (intOf x).toNat)
      case atStart => exact ⟨0, Nat.zero_le _, rfl, hT, hB⟩
      case round =>
        clear hT hB
        obtain ⟨j, hj, rfl, hT, hB⟩ := hrel
        by_cases hltj : j < n
        · have hA := (HA.out.next hB.out)
          have hBb := (HB.out.next hB.out)
          have q1 := hA.cellTop hlt
          have q2 := hA.cellRow hlt hltj
          have q3 := hBb.cellTop hlt
          have q4 := hBb.cellRow hlt hltj
          have q5 := hT.out.cellTop hlt
          have q6 := hT.out.cellRow hlt hltj
          have q7 := hT.out.freeRow hlt j
          obtain ⟨old, hold⟩ : ∃ v : Bool, fillTo (fun i j => fa i j && fb i j) i j i j = v := ⟨_, rfl⟩
          simp only [hold] at q6
          clear hold
          have hj0 : (0 : Int) ≤ (j : Int) := by omega
          have hjn : (j : Int) < (n : Int) := by omega
          clear hA hBb
          obtain ⟨x, hx⟩ : ∃ x : Bool, fa i j = x := ⟨_, rfl⟩
          obtain ⟨y, hy⟩ : ∃ y : Bool, fb i j = y := ⟨_, rfl⟩
          rw [hx] at q2
          rw [hy] at q4
          have HX := Lib.hid hx
          have HY := Lib.hid hy
          clear hx hy
          cases x
          · go_wp2_with fail
            go_region
            go_wp2_with fail
            go_roundw
            case rel => exact ⟨j + 1, by omega, by go_num, Lib.hid (TabAt.drew (hT.out.fillStep hlt (by rw [HX.out, HY.out]; rfl))), Lib.hid (Below.drew (hB.out.setCell (by have := (hT.out.rlow i hlt).1; exact this) _))⟩
            case measure => simp [intOf]; omega
          · go_wp2_with fail
            go_region
            go_wp2_with fail
            go_roundw
            case rel => exact ⟨j + 1, by omega, by go_num, Lib.hid (TabAt.drew (hT.out.fillStep hlt (by rw [HX.out, HY.out]; rfl))), Lib.hid (Below.drew (hB.out.setCell (by have := (hT.out.rlow i hlt).1; exact this) _))⟩
            case measure => simp [intOf]; omega
        · obtain rfl : j = n := by omega
          go_wp2_with fail
          go_roundw
          case rel => exact ⟨i + 1, by omega, by go_num, Lib.hid hT.out.fillRow, hB⟩
          case measure => simp [intOf]; omega
    · obtain rfl : i = n := by omega
      go_wp2_with fail
      go_ret
      exact ⟨g, r, rfl, hT.out.fillEnd, hB.out⟩

end Go.Proofs.YtcghclikkeajfaaGreat

/- What the reference's Any and times answer. -/
namespace Go.Proofs.YtcghclikkeajfaaGreat
open Go.RowKit
set_option linter.unusedVariables false

def eqF (i j : Nat) : Bool := decide (i = j)
def anyTo (fa : Nat → Nat → Bool) (n : Nat) : Nat → Nat → Nat → Bool
  | 0 => eqF
  | m + 1 => fun i j => anyTo fa n m i j || thenF (anyTo fa n m) fa n i j
def powF (fa : Nat → Nat → Bool) (n : Nat) : Nat → Nat → Nat → Bool
  | 0 => eqF
  | m + 1 => thenF (powF fa n m) fa n
/-- Some number of times from l to l + m. -/
def outF (fa : Nat → Nat → Bool) (n l : Nat) : Nat → Nat → Nat → Bool
  | 0 => powF fa n l
  | m + 1 => fun i j => outF fa n l m i j || powF fa n (l + (m + 1)) i j
def timesT (fa : Nat → Nat → Bool) (n l : Nat) (hi : Int) : Nat → Nat → Bool := if hi < 0 then thenF (powF fa n l) (anyTo fa n n) n else outF fa n l (hi.toNat - l)
theorem TabAt.tin {w : World} {E B : TypeId} {base g n : Nat} {r : Nat → Nat} {f : Nat → Nat → Bool} (h : TabAt w E B base g n r f) : TabIn w E B g n f := ⟨r, h.lower (Nat.zero_le _)⟩
/-- A table of the call's own, wherever it is by now. -/
def Own (w : World) (base g n : Nat) (f : Nat → Nat → Bool) : Prop := ∃ r, TabAt w 63 4 base g n r f
theorem Own.tin {w : World} {base g n : Nat} {f : Nat → Nat → Bool} (h : Own w base g n f) : TIn w g n f := by obtain ⟨r, h⟩ := h; exact h.tin
theorem Own.next {w w' : World} {base g n : Nat} {f : Nat → Nat → Bool} (h : Own w base g n f) (hb : Below w.heap.size w w') : Own w' base g n f := by obtain ⟨r, h⟩ := h; exact ⟨r, h.next hb⟩
theorem Own.of {w : World} {base base' g n : Nat} {r : Nat → Nat} {f : Nat → Nat → Bool} (h : TabAt w 63 4 base g n r f) (hb : base' ≤ base) : Own w base' g n f := ⟨r, h.lower hb⟩

set_option maxRecDepth 100000 in
set_option maxHeartbeats 2000000 in
theorem refAny (n ga : Nat) (fa : Nat → Nat → Bool) (hn : n ≤ 1000) (w : World) (ha : TIn w ga n fa) :
    Calls Tryz.prog 35 #[.slice (some ⟨ga, 0, none⟩) n n] w (Tabled w n (anyTo fa n n)) := by
  have HA := Lib.hid ha
  clear ha
  go_enter Tryz.func35, Tryz.ntmps35
  go_wp2_with fail
  refine (refOne n hn _).mono ?_
  rintro e w1 ⟨g1, r1, rfl, hT1, hb1⟩
  have HT1 : Hid (Own w1 w.heap.size g1 n (anyTo fa n 0)) := Own.of (hT1.congr (fun _ _ _ _ => rfl)) (Nat.le_refl _)
  have HB1 := Lib.hid hb1
  clear hT1 hb1
  go_wp2_with fail
  go_loopw [3, 9] (fun t x wr => ∃ (k gt : Nat), k ≤ n ∧ x = .int .i64 k ∧ t = .slice (some ⟨gt, 0, none⟩) n n ∧ Hid (Own wr w.heap.size gt n (anyTo fa n k)) ∧ Hid (Below w.heap.size w wr)) (fun _ x _ => n - (intOf x).toNat)
  case atStart => exact ⟨0, g1, Nat.zero_le _, rfl, rfl, HT1, HB1⟩
  case round =>
    obtain ⟨k, gt, hk, rfl, rfl, hT, hB⟩ := hrel
    by_cases hlt : k < n
    · have hkn : (k : Int) < (n : Int) := by omega
      go_wp2_with fail
      refine (refThen n gt ga (anyTo fa n k) fa hn _ hT.out.tin (HA.out.next hB.out)).mono ?_
      rintro e w3 ⟨g3, r3, rfl, hT3, hb3⟩
      have HT := Lib.hid (hT.out.next hb3)
      have HB := Lib.hid (hB.out.trans (hb3.mono hB.out.size))
      have HT3 := Lib.hid hT3.tin
      clear hT3 hb3
      go_wp2_with fail
      refine (refEither n gt g3 (anyTo fa n k) (thenF (anyTo fa n k) fa n) hn _ HT.out.tin HT3.out).mono ?_
      rintro e w4 ⟨g4, r4, rfl, hT4, hb4⟩
      have HB4 := Lib.hid (HB.out.trans (hb4.mono HB.out.size))
      have HT4 : Hid (Own w4 w.heap.size g4 n (anyTo fa n (k + 1))) := Own.of hT4 HB.out.size
      clear hT4 hb4
      go_wp2_with fail
      exact ⟨⟨k + 1, g4, by omega, by go_num, rfl, HT4, HB4⟩, by simp [intOf]; omega⟩
    · obtain rfl : k = n := by omega
      go_wp2_with fail
      go_ret
      obtain ⟨r, h⟩ := hT.out
      exact ⟨gt, r, rfl, h, hB.out⟩

set_option maxRecDepth 100000 in
set_option maxHeartbeats 4000000 in
theorem refTimes (n ga l : Nat) (fa : Nat → Nat → Bool) (t : Tr) (hn : n ≤ 1000) (hl : t.lo = (l : Int)) (hl20 : l ≤ 1000) (hh : t.hi ≤ 1000) (w : World) (ha : TIn w ga n fa) :
    Calls Tryz.prog 37 #[.agg t.cs.toArray, .slice (some ⟨ga, 0, none⟩) n n] w (Tabled w n (timesT fa n l t.hi)) := by
  have HA := Lib.hid ha
  clear ha
  have hA0 : At (w.alloc (Obj.cells t.cs.toArray 27)) w.heap.size 27 t.cs.toArray := At.new _ _ _
  have hB0 : Below w.heap.size w (w.alloc (Obj.cells t.cs.toArray 27)) := (Below.refl _ _).alloc (Nat.le_refl _) _
  obtain ⟨hi, hhi⟩ : ∃ hi : Int, t.hi = hi := ⟨_, rfl⟩
  rw [hhi] at hh ⊢
  have HL := Lib.hid hl
  have HH := Lib.hid hhi
  clear hl hhi
  go_enter Tryz.func37, Tryz.ntmps37
  go_wp2_with fail
  refine (refOne n hn _).mono ?_
  rintro e w1 ⟨g1, r1, rfl, hT1, hb1⟩
  have HAt := Lib.hid (hA0.step hb1 rfl)
  have HB1 := Lib.hid (below_step hB0 hb1 rfl rfl rfl rfl)
  have HT1 : Hid (Own w1 w.heap.size g1 n (powF fa n 0)) := Own.of (hT1.congr (fun _ _ _ _ => rfl)) (by simp)
  clear hT1 hb1 hA0 hB0
  have c2 := (At.tr_cell HAt.out).2.2.1
  rw [HL.out] at c2
  go_wp2_with fail
  clear c2
  go_loopw [5, 13] (fun tv x wr => ∃ (k gt : Nat), k ≤ l ∧ x = .int .i64 k ∧ tv = .slice (some ⟨gt, 0, none⟩) n n ∧ Hid (Own wr w.heap.size gt n (powF fa n k)) ∧ Hid (At wr w.heap.size 27 t.cs.toArray) ∧ Hid (Below w.heap.size w wr)) (fun _ x _ => l - (intOf x).toNat)
  case atStart => exact ⟨0, g1, Nat.zero_le _, rfl, rfl, HT1, HAt, HB1⟩
  case round =>
    clear HT1 HAt HB1
    obtain ⟨k, gt, hk, rfl, rfl, hT, hAt, hB⟩ := hrel
    by_cases hlt : k < l
    · have hkn : (k : Int) < (l : Int) := by omega
      go_wp2_with fail
      refine (refThen n gt ga (powF fa n k) fa hn _ hT.out.tin (HA.out.next hB.out)).mono ?_
      rintro e w3 ⟨g3, r3, rfl, hT3, hb3⟩
      have HAt := Lib.hid (hAt.out.step hb3 rfl)
      have HB := Lib.hid (hB.out.trans (hb3.mono hB.out.size))
      have HT3 : Hid (Own w3 w.heap.size g3 n (powF fa n (k + 1))) := Own.of hT3 hB.out.size
      clear hT3 hb3
      go_wp2_with fail
      exact ⟨⟨k + 1, g3, by omega, by go_num, rfl, HT3, HAt, HB⟩, by simp [intOf]; omega⟩
    · obtain rfl : k = l := by omega
      have c2 := (At.tr_cell hAt.out).2.2.1
      rw [HL.out] at c2
      have c3 := (At.tr_cell hAt.out).2.2.2.1
      rw [HH.out] at c3
      by_cases hneg : hi < 0
      · have hd := dec_t hneg
        have HF : Hid (timesT fa n k hi = thenF (powF fa n k) (anyTo fa n n) n) := by unfold timesT; rw [if_pos hneg]; exact rfl
        go_wp2_with fail
        refine (refAny n ga fa hn _ (HA.out.next hB.out)).mono ?_
        rintro e w3 ⟨g3, r3, rfl, hT3, hb3⟩
        have HB := Lib.hid (hB.out.trans (hb3.mono hB.out.size))
        have HT := Lib.hid (hT.out.next hb3)
        have HT3 := Lib.hid hT3.tin
        clear hT3 hb3 c2 c3
        go_wp2_with fail
        refine (refThen n gt g3 (powF fa n k) (anyTo fa n n) hn _ HT.out.tin HT3.out).mono ?_
        rintro e w4 ⟨g4, r4, rfl, hT4, hb4⟩
        have HB4 := Lib.hid (HB.out.trans (hb4.mono HB.out.size))
        have HT4 := Lib.hid (hT4.lower HB.out.size)
        clear hT4 hb4
        go_wp2_with fail
        go_ret
        exact ⟨g4, r4, rfl, by rw [HF.out]; exact HT4.out, HB4.out⟩
      · have hd := dec_f hneg
        have HF : Hid (timesT fa n k hi = outF fa n k (hi.toNat - k)) := by unfold timesT; rw [if_neg hneg]; exact rfl
        obtain ⟨h, hhe⟩ : ∃ h : Nat, hi = (h : Int) := ⟨hi.toNat, by omega⟩
        subst hhe
        go_wp2_with fail
        clear c2 c3
        go_loopw [5, 6, 7] (fun tv ov x wr => ∃ (m gt go : Nat), (k + m ≤ h ∨ m = 0) ∧ x = .int .i64 ((k + m : Nat) : Int) ∧ tv = .slice (some ⟨gt, 0, none⟩) n n ∧ ov = .slice (some ⟨go, 0, none⟩) n n ∧ Hid (Own wr w.heap.size gt n (powF fa n (k + m))) ∧ Hid (Own wr w.heap.size go n (outF fa n k m)) ∧ Hid (At wr w.heap.size 27 t.cs.toArray) ∧ Hid (Below w.heap.size w wr)) (fun _ _ x _ => 2001 - (intOf x).toNat)
        case atStart => exact ⟨0, gt, gt, .inr rfl, rfl, rfl, rfl, hT, hT, hAt, hB⟩
        case round =>
          clear hT hAt hB
          obtain ⟨m, gt, go, hm, rfl, rfl, rfl, hT, hO, hAt, hB⟩ := hrel
          have c3 := (At.tr_cell hAt.out).2.2.2.1
          rw [HH.out] at c3
          obtain ⟨x, hx⟩ : ∃ x : Nat, k + m = x := ⟨_, rfl⟩
          have HX := Lib.hid hx
          rw [hx]
          by_cases hlt2 : x < h
          · have hkn : (x : Int) < (h : Int) := by omega
            have hkd : decide ((x : Int) < (h : Int)) = true := dec_t hkn
            clear hx
            go_wp2_with fail
            refine (refThen n gt ga (powF fa n (k + m)) fa hn _ hT.out.tin (HA.out.next hB.out)).mono ?_
            rintro e w3 ⟨g3, r3, rfl, hT3, hb3⟩
            have HAt := Lib.hid (hAt.out.step hb3 rfl)
            have HB := Lib.hid (hB.out.trans (hb3.mono hB.out.size))
            have HO := Lib.hid (hO.out.next hb3)
            have HT3 : Hid (Own w3 w.heap.size g3 n (powF fa n (k + (m + 1)))) := Own.of hT3 hB.out.size
            clear hT3 hb3 c3
            go_wp2_with fail
            refine (refEither n go g3 (outF fa n k m) (powF fa n (k + (m + 1))) hn _ HO.out.tin HT3.out.tin).mono ?_
            rintro e w4 ⟨g4, r4, rfl, hT4, hb4⟩
            have HAt4 := Lib.hid (HAt.out.step hb4 rfl)
            have HB4 := Lib.hid (HB.out.trans (hb4.mono HB.out.size))
            have HT5 := Lib.hid (HT3.out.next hb4)
            have HO4 : Hid (Own w4 w.heap.size g4 n (outF fa n k (m + 1))) := Own.of hT4 HB.out.size
            clear hT4 hb4
            go_wp2_with fail
            exact ⟨⟨m + 1, g3, g4, by have := HX.out; omega, by rw [← HX.out]; go_num, rfl, rfl, HT5, HO4, HAt4, HB4⟩, by simp [intOf]; omega⟩
          · have hkd : decide ((x : Int) < (h : Int)) = false := dec_f (by omega)
            have hkn : ¬ (x : Int) < (h : Int) := by omega
            have hme : m = h - k := by omega
            clear hx
            go_wp2_with fail
            go_ret
            obtain ⟨r, hh2⟩ := hO.out
            exact ⟨go, r, rfl, by rw [HF.out]; rw [hme] at hh2; exact hh2, hB.out⟩

end Go.Proofs.YtcghclikkeajfaaGreat

/- What the reference's look answers. -/
namespace Go.Proofs.YtcghclikkeajfaaGreat
open Go.RowKit
set_option linter.unusedVariables false

/-- Is there a span at place i (from it, or, with 'back', up to it), among the first m places? -/
def isTo (fa : Nat → Nat → Bool) (back : Bool) (i m : Nat) : Bool := (List.range m).any (fun k => bif back then fa k i else fa i k)
def lookF (fa : Nat → Nat → Bool) (n : Nat) (back neg : Bool) (i j : Nat) : Bool := if i = j then isTo fa back i n != neg else false
def lookTo (fa : Nat → Nat → Bool) (n : Nat) (back neg : Bool) (i i' j' : Nat) : Bool := if i' < i then lookF fa n back neg i' j' else false
theorem isTo_zero {fa : Nat → Nat → Bool} {back : Bool} {i : Nat} : isTo fa back i 0 = false := rfl
theorem isTo_succ8 {fa : Nat → Nat → Bool} {i k : Nat} : isTo fa false i (k + 1) = (isTo fa false i k || fa i k) := by unfold isTo; rw [List.range_succ, List.any_append]; simp
theorem isTo_succ9 {fa : Nat → Nat → Bool} {i k : Nat} : isTo fa true i (k + 1) = (isTo fa true i k || fa k i) := by unfold isTo; rw [List.range_succ, List.any_append]; simp
theorem lookTo_step {fa : Nat → Nat → Bool} {n : Nat} {back neg : Bool} {i i' j' : Nat} : (if i' = i ∧ j' = i then isTo fa back i n != neg else lookTo fa n back neg i i' j') = lookTo fa n back neg (i + 1) i' j' := by
  by_cases e : i' = i ∧ j' = i
  · obtain ⟨rfl, rfl⟩ := e
    unfold lookTo lookF
    rw [if_pos ⟨rfl, rfl⟩, if_pos (by omega), if_pos rfl]
  · rw [if_neg e]
    unfold lookTo
    by_cases c : i' < i
    · rw [if_pos c, if_pos (by omega)]
    · rw [if_neg c]
      by_cases c2 : i' = i
      · subst c2
        rw [if_pos (by omega)]
        unfold lookF
        rw [if_neg (fun q => e ⟨rfl, q.symm⟩)]
      · rw [if_neg (by omega)]

set_option maxRecDepth 100000 in
set_option maxHeartbeats 4000000 in
theorem refLook8 (n ga : Nat) (fa : Nat → Nat → Bool) (t : Tr) (hn : n ≤ 1000) (hk : t.kind = 8) (w : World) (ha : TIn w ga n fa) :
    Calls Tryz.prog 38 #[.agg t.cs.toArray, .slice (some ⟨ga, 0, none⟩) n n] w (Tabled w n (lookF fa n false t.neg)) := by
  obtain ⟨ra, ha⟩ := ha
  have HA := Lib.hid ha
  clear ha
  have hA0 : At (w.alloc (Obj.cells t.cs.toArray 27)) w.heap.size 27 t.cs.toArray := At.new _ _ _
  have hB0 : Below w.heap.size w (w.alloc (Obj.cells t.cs.toArray 27)) := (Below.refl _ _).alloc (Nat.le_refl _) _
  have HK := Lib.hid hk
  clear hk
  go_enter Tryz.func38, Tryz.ntmps38
  go_wp2_with fail
  refine (refBlank n hn _).mono ?_
  rintro e w1 ⟨rfl, ht1, hb1⟩
  have HAt := Lib.hid (hA0.step hb1 rfl)
  have HB1 := Lib.hid (below_step hB0 hb1 rfl rfl rfl rfl)
  obtain ⟨g, hg⟩ : ∃ g, g = (w.alloc (Obj.cells t.cs.toArray 27)).heap.size := ⟨_, rfl⟩
  obtain ⟨r, hr⟩ : ∃ r : Nat → Nat, r = (fun i => (w.alloc (Obj.cells t.cs.toArray 27)).heap.size + 1 + i) := ⟨_, rfl⟩
  rw [← hr] at ht1
  clear hr
  have hgw : w.heap.size + 1 = g := by rw [hg]; simp
  have hT1 : Hid (TabAt w1 63 4 (w.heap.size + 1) g n r (lookTo fa n false t.neg 0)) := by
    have h2 := ht1.congr (f' := lookTo fa n false t.neg 0) (fun i j _ _ => by unfold lookTo; rw [if_neg (Nat.not_lt_zero _)])
    rw [← hg] at h2
    rw [hgw]; exact h2
  clear ht1 hb1 hA0 hB0
  have HGW := Lib.hid hgw
  try rw [← hg]
  try rw [hgw]
  clear hg hgw
  go_wp2_with fail
  go_loopw [14] (fun x wr => ∃ i : Nat, i ≤ n ∧ x = .int .i64 i ∧ Hid (TabAt wr 63 4 (w.heap.size + 1) g n r (lookTo fa n false t.neg i)) ∧ Hid (At wr w.heap.size 27 t.cs.toArray) ∧ Hid (Below w.heap.size w wr)) (fun x _ => n - (intOf x).toNat)
  case atStart => exact ⟨0, Nat.zero_le _, rfl, hT1, HAt, HB1⟩
  case round =>
    clear hT1 HAt HB1
    obtain ⟨i, hi, rfl, hT, hAt, hB⟩ := hrel
    by_cases hlt : i < n
    · have hd1 : decide ((i : Int) < (n : Int)) = true := dec_t (by omega)
      have hd2 : (i : Int) < (n : Int) := by omega
      have hi0 : (0 : Int) ≤ (i : Int) := by omega
      go_wp2_with fail
      have hA := HA.out.next hB.out
      obtain ⟨c0, c5, c6, c7, c8⟩ := At.tr_cell hAt.out
      rw [HK.out] at c0
      clear c5 c6 c7
      go_loop [7, 19] (fun is x => ∃ k : Nat, k ≤ n ∧ x = .int .i64 k ∧ is = .bool (isTo fa false i k)) (fun _ x => n - (intOf x).toNat)
      case atStart => exact ⟨0, Nat.zero_le _, rfl, by rw [isTo_zero]⟩
      case round =>
        obtain ⟨k, hk, rfl, rfl⟩ := hrel
        obtain ⟨y, hy⟩ : ∃ y : Bool, isTo fa false i k = y := ⟨_, rfl⟩
        rw [hy]
        have HY := Lib.hid hy
        clear hy
        by_cases hltk : k < n
        · have q1 := hA.cellTop hlt
          have q2 := hA.cellRow hlt hltk
          obtain ⟨z, hz⟩ : ∃ z : Bool, fa i k = z := ⟨_, rfl⟩
          rw [hz] at q2
          have HZ := Lib.hid hz
          clear hz
          have hk0 : (0 : Int) ≤ (k : Int) := by omega
          have hkn : (k : Int) < (n : Int) := by omega
          cases y
          · cases z
            · go_wp2_with fail
              exact ⟨⟨k + 1, by omega, by go_num, by rw [isTo_succ8, HY.out, HZ.out]; rfl⟩, by simp [intOf]; omega⟩
            · go_wp2_with fail
              exact ⟨⟨k + 1, by omega, by go_num, by rw [isTo_succ8, HY.out, HZ.out]; rfl⟩, by simp [intOf]; omega⟩
          · go_wp2_with fail
            exact ⟨⟨k + 1, by omega, by go_num, by rw [isTo_succ8, HY.out]; rfl⟩, by simp [intOf]; omega⟩
        · obtain rfl : k = n := by omega
          have q5 := hT.out.cellTop hlt
          have q6 := hT.out.cellRow hlt hlt
          have q7 := hT.out.freeRow hlt i
          obtain ⟨old, hold⟩ : ∃ v : Bool, lookTo fa k false t.neg i i i = v := ⟨_, rfl⟩
          rw [hold] at q6
          clear hold c0
          obtain ⟨ng, hng⟩ : ∃ ng : Bool, t.neg = ng := ⟨_, rfl⟩
          rw [hng] at c8
          have HN := Lib.hid hng
          clear hng hA
          go_wp2_with fail
          go_region
          go_wp2_with fail
          go_roundw
          case rel => exact ⟨i + 1, by omega, by go_num, Lib.hid (TabAt.drew ((hT.out.put i hlt (y != ng)).congr (fun i' j' _ _ => by rw [← lookTo_step, HY.out, HN.out]))), Lib.hid (At.drew (hAt.out.other (by have := (hT.out.rlow i hlt).1; dsimp only; omega) _)), Lib.hid (Below.drew (hB.out.setCell (by have := (hT.out.rlow i hlt).1; dsimp only; omega) _))⟩
          case measure => simp [intOf]; omega
    · obtain rfl : i = n := by omega
      go_wp2_with fail
      go_ret
      exact ⟨g, r, rfl, (hT.out.lower (by omega)).congr (fun i' j' h _ => by unfold lookTo; rw [if_pos h]), hB.out⟩

set_option maxRecDepth 100000 in
set_option maxHeartbeats 4000000 in
theorem refLook9 (n ga : Nat) (fa : Nat → Nat → Bool) (t : Tr) (hn : n ≤ 1000) (hk : t.kind = 9) (w : World) (ha : TIn w ga n fa) :
    Calls Tryz.prog 38 #[.agg t.cs.toArray, .slice (some ⟨ga, 0, none⟩) n n] w (Tabled w n (lookF fa n true t.neg)) := by
  obtain ⟨ra, ha⟩ := ha
  have HA := Lib.hid ha
  clear ha
  have hA0 : At (w.alloc (Obj.cells t.cs.toArray 27)) w.heap.size 27 t.cs.toArray := At.new _ _ _
  have hB0 : Below w.heap.size w (w.alloc (Obj.cells t.cs.toArray 27)) := (Below.refl _ _).alloc (Nat.le_refl _) _
  have HK := Lib.hid hk
  clear hk
  go_enter Tryz.func38, Tryz.ntmps38
  go_wp2_with fail
  refine (refBlank n hn _).mono ?_
  rintro e w1 ⟨rfl, ht1, hb1⟩
  have HAt := Lib.hid (hA0.step hb1 rfl)
  have HB1 := Lib.hid (below_step hB0 hb1 rfl rfl rfl rfl)
  obtain ⟨g, hg⟩ : ∃ g, g = (w.alloc (Obj.cells t.cs.toArray 27)).heap.size := ⟨_, rfl⟩
  obtain ⟨r, hr⟩ : ∃ r : Nat → Nat, r = (fun i => (w.alloc (Obj.cells t.cs.toArray 27)).heap.size + 1 + i) := ⟨_, rfl⟩
  rw [← hr] at ht1
  clear hr
  have hgw : w.heap.size + 1 = g := by rw [hg]; simp
  have hT1 : Hid (TabAt w1 63 4 (w.heap.size + 1) g n r (lookTo fa n true t.neg 0)) := by
    have h2 := ht1.congr (f' := lookTo fa n true t.neg 0) (fun i j _ _ => by unfold lookTo; rw [if_neg (Nat.not_lt_zero _)])
    rw [← hg] at h2
    rw [hgw]; exact h2
  clear ht1 hb1 hA0 hB0
  have HGW := Lib.hid hgw
  try rw [← hg]
  try rw [hgw]
  clear hg hgw
  go_wp2_with fail
  go_loopw [14] (fun x wr => ∃ i : Nat, i ≤ n ∧ x = .int .i64 i ∧ Hid (TabAt wr 63 4 (w.heap.size + 1) g n r (lookTo fa n true t.neg i)) ∧ Hid (At wr w.heap.size 27 t.cs.toArray) ∧ Hid (Below w.heap.size w wr)) (fun x _ => n - (intOf x).toNat)
  case atStart => exact ⟨0, Nat.zero_le _, rfl, hT1, HAt, HB1⟩
  case round =>
    clear hT1 HAt HB1
    obtain ⟨i, hi, rfl, hT, hAt, hB⟩ := hrel
    by_cases hlt : i < n
    · have hd1 : decide ((i : Int) < (n : Int)) = true := dec_t (by omega)
      have hd2 : (i : Int) < (n : Int) := by omega
      have hi0 : (0 : Int) ≤ (i : Int) := by omega
      go_wp2_with fail
      have hA := HA.out.next hB.out
      obtain ⟨c0, c5, c6, c7, c8⟩ := At.tr_cell hAt.out
      rw [HK.out] at c0
      clear c5 c6 c7
      go_loop [7, 19] (fun is x => ∃ k : Nat, k ≤ n ∧ x = .int .i64 k ∧ is = .bool (isTo fa true i k)) (fun _ x => n - (intOf x).toNat)
      case atStart => exact ⟨0, Nat.zero_le _, rfl, by rw [isTo_zero]⟩
      case round =>
        obtain ⟨k, hk, rfl, rfl⟩ := hrel
        obtain ⟨y, hy⟩ : ∃ y : Bool, isTo fa true i k = y := ⟨_, rfl⟩
        rw [hy]
        have HY := Lib.hid hy
        clear hy
        by_cases hltk : k < n
        · have q1 := hA.cellTop hltk
          have q2 := hA.cellRow hltk hlt
          obtain ⟨z, hz⟩ : ∃ z : Bool, fa k i = z := ⟨_, rfl⟩
          rw [hz] at q2
          have HZ := Lib.hid hz
          clear hz
          have hk0 : (0 : Int) ≤ (k : Int) := by omega
          have hkn : (k : Int) < (n : Int) := by omega
          cases y
          · cases z
            · go_wp2_with fail
              exact ⟨⟨k + 1, by omega, by go_num, by rw [isTo_succ9, HY.out, HZ.out]; rfl⟩, by simp [intOf]; omega⟩
            · go_wp2_with fail
              exact ⟨⟨k + 1, by omega, by go_num, by rw [isTo_succ9, HY.out, HZ.out]; rfl⟩, by simp [intOf]; omega⟩
          · go_wp2_with fail
            exact ⟨⟨k + 1, by omega, by go_num, by rw [isTo_succ9, HY.out]; rfl⟩, by simp [intOf]; omega⟩
        · obtain rfl : k = n := by omega
          have q5 := hT.out.cellTop hlt
          have q6 := hT.out.cellRow hlt hlt
          have q7 := hT.out.freeRow hlt i
          obtain ⟨old, hold⟩ : ∃ v : Bool, lookTo fa k true t.neg i i i = v := ⟨_, rfl⟩
          rw [hold] at q6
          clear hold c0
          obtain ⟨ng, hng⟩ : ∃ ng : Bool, t.neg = ng := ⟨_, rfl⟩
          rw [hng] at c8
          have HN := Lib.hid hng
          clear hng hA
          go_wp2_with fail
          go_region
          go_wp2_with fail
          go_roundw
          case rel => exact ⟨i + 1, by omega, by go_num, Lib.hid (TabAt.drew ((hT.out.put i hlt (y != ng)).congr (fun i' j' _ _ => by rw [← lookTo_step, HY.out, HN.out]))), Lib.hid (At.drew (hAt.out.other (by have := (hT.out.rlow i hlt).1; dsimp only; omega) _)), Lib.hid (Below.drew (hB.out.setCell (by have := (hT.out.rlow i hlt).1; dsimp only; omega) _))⟩
          case measure => simp [intOf]; omega
    · obtain rfl : i = n := by omega
      go_wp2_with fail
      go_ret
      exact ⟨g, r, rfl, (hT.out.lower (by omega)).congr (fun i' j' h _ => by unfold lookTo; rw [if_pos h]), hB.out⟩

end Go.Proofs.YtcghclikkeajfaaGreat

/- A list of tables of the call's own; what a formed pattern matches, as a table. -/
namespace Go.Proofs.YtcghclikkeajfaaGreat
open Go.RowKit

theorem TabAt.grown {w w' : World} {E B : TypeId} {base g n : Nat} {r : Nat → Nat} {f : Nat → Nat → Bool} {row : Option Nat} (h : TabAt w E B base g n r f) (hg : w.grownBy w' row) (h1 : some g ≠ row) (h2 : ∀ i, i < n → some (r i) ≠ row) : TabAt w' E B base g n r f :=
  ⟨(hg.block g h.top.lt h1).trans h.top, h.low, fun i hi => (hg.block (r i) (h.row i hi).lt (h2 i hi)).trans (h.row i hi), h.rlow, h.apart⟩
abbrev TG := Nat × (Nat → Nat)
def tv (n : Nat) (p : TG) : Value := .slice (some ⟨p.1, 0, none⟩) n n
/-- A slice v of the call's own whose tables say fs. -/
structure TabsAt (w : World) (base : Nat) (v : Value) (n : Nat) (ts : List TG) (fs : List (Nat → Nat → Bool)) : Prop where
  own : w.ownsRow base 42 1 v ts.length (ts.map (tv n))
  len : ts.length = fs.length
  tab : ∀ (j : Nat) (h : j < ts.length) (h' : j < fs.length), TabAt w 63 4 base ts[j].1 n ts[j].2 fs[j]
  off : ∀ b, v.ownBlock = some b → ∀ p ∈ ts, p.1 ≠ b ∧ ∀ i, i < n → p.2 i ≠ b
section
variable {w w' w0 : World} {base n : Nat} {v : Value} {ts : List TG} {fs : List (Nat → Nat → Bool)}
theorem TabsAt.nil (w : World) (base n : Nat) : TabsAt w base (.slice none 0 0) n [] [] :=
  ⟨World.ownsRow_nil w base _ 1, rfl, fun j h => absurd h (Nat.not_lt_zero _), fun b _ p hp => by cases hp⟩
theorem TabsAt.next (h : TabsAt w base v n ts fs) (hb : Below w.heap.size w w') : TabsAt w' base v n ts fs :=
  ⟨World.ownsRow.kept (row := none) h.own (grown_none hb) (by cases hv : v.ownBlock <;> simp), h.len, fun j h1 h2 => (h.tab j h1 h2).next hb, h.off⟩
theorem TabsAt.cell {g cap m : Nat} (h : TabsAt w base (.slice (some ⟨g, 0, none⟩) m cap) n ts fs) (j : Nat) (hj : j < ts.length) : w.cell? ⟨g, j, none⟩ = some (.slice (some ⟨ts[j].1, 0, none⟩) n n) := by
  have hl : m = ts.length := by
    rcases h.own.2 with ⟨hv, _⟩ | ⟨g', cap', cur, hv, _⟩
    · cases hv
    · injection hv
  subst hl
  rw [World.ownsRow.cellAt h.own j (by omega)]
  simp [hj, tv]
theorem TabsAt.form (h : TabsAt w base v n ts fs) (hn : 0 < ts.length) : ∃ g cap, v = .slice (some ⟨g, 0, none⟩) ts.length cap ∧ base ≤ g ∧ g < w.heap.size := h.own.form hn
theorem TabsAt.len_form (h : TabsAt w base v n ts fs) : ∃ A cap, v = .slice A ts.length cap := by
  rcases h.own.2 with ⟨rfl, hn⟩ | ⟨g, cap, cur, rfl, _⟩
  · exact ⟨none, 0, by rw [hn]⟩
  · exact ⟨_, _, rfl⟩
/-- One table more has been appended. -/
theorem TabsAt.push {g2 : Nat} {r2 : Nat → Nat} {f2 : Nat → Nat → Bool} {g cap H : Nat} (h : TabsAt w base v n ts fs) (ht : TabAt w 63 4 base g2 n r2 f2)
    (hown : w'.ownsRow base 42 1 (.slice (some ⟨g, 0, none⟩) (ts.length + 1) cap) (ts.length + 1) (ts.map (tv n) ++ [tv n (g2, r2)])) (hg : w.grownBy w' v.ownBlock)
    (hat : v.ownBlock = some g ∨ g = H) (hH : w.heap.size ≤ H) (hnew : ∀ b, v.ownBlock = some b → g2 ≠ b ∧ ∀ i, i < n → r2 i ≠ b) : TabsAt w' base (.slice (some ⟨g, 0, none⟩) (ts.length + 1) cap) n (ts ++ [(g2, r2)]) (fs ++ [f2]) := by
  have hkeep : ∀ (j : Nat) (h1 : j < ts.length) (h2 : j < fs.length), TabAt w' 63 4 base ts[j].1 n ts[j].2 fs[j] := fun j h1 h2 => by
    refine (h.tab j h1 h2).grown hg ?_ ?_
    · intro e
      exact (h.off _ e.symm _ (List.getElem_mem h1)).1 rfl
    · intro i hi e
      exact (h.off _ e.symm _ (List.getElem_mem h1)).2 i hi rfl
  have hkeep2 : TabAt w' 63 4 base g2 n r2 f2 := ht.grown hg (fun e => (hnew _ e.symm).1 rfl) (fun i hi e => (hnew _ e.symm).2 i hi rfl)
  refine ⟨?_, ?_, ?_, ?_⟩
  · rw [List.length_append, List.map_append]; exact hown
  · rw [List.length_append, List.length_append, h.len]; rfl
  · intro j h1 h2
    by_cases hj : j < ts.length
    · have hj2 : j < fs.length := by have := h.len; omega
      have e1 : (ts ++ [(g2, r2)])[j] = ts[j] := List.getElem_append_left hj
      have e2 : (fs ++ [f2])[j] = fs[j] := List.getElem_append_left hj2
      rw [e1, e2]; exact hkeep j hj hj2
    · have hj1 : j = ts.length := by rw [List.length_append] at h1; simp at h1; omega
      subst hj1
      have e1 : (ts ++ [(g2, r2)])[ts.length] = (g2, r2) := by simp
      have e2 : (fs ++ [f2])[ts.length]'h2 = f2 := by rw [List.getElem_append_right (by rw [h.len]; exact Nat.le_refl _)]; simp [h.len]
      rw [e1, e2]; exact hkeep2
  · intro b hb p hp
    have hbg : g = b := by simpa [Value.ownBlock] using hb
    subst hbg
    rcases hat with hat | rfl
    · rw [List.mem_append] at hp
      rcases hp with hp | hp
      · exact h.off _ hat p hp
      · have : p = (g2, r2) := by simpa using hp
        subst this
        exact hnew _ hat
    · have low : ∀ q : TG, (∃ f, TabAt w 63 4 base q.1 n q.2 f) → q.1 ≠ g ∧ ∀ i, i < n → q.2 i ≠ g := fun q ⟨f, hq⟩ => ⟨by have := hq.top.lt; omega, fun i hi => by have := (hq.row i hi).lt; omega⟩
      rw [List.mem_append] at hp
      rcases hp with hp | hp
      · obtain ⟨j, hj, rfl⟩ := List.getElem_of_mem hp
        exact low _ ⟨_, h.tab j hj (by have := h.len; omega)⟩
      · have : p = (g2, r2) := by simpa using hp
        subst this
        exact low _ ⟨_, ht⟩
end

/-- What a formed pattern matches in l: places 0 to n - 1, n one more than the bytes. -/
def byteF (s : St) (l : List Nat) (i j : Nat) : Bool := decide (j = i + 1 ∧ i < l.length) && s.has ((l[i]?).getD 0)
def beginF (l : List Nat) (i j : Nat) : Bool := decide (i = j) && (decide (i = 0) || decide ((l[i - 1]?).getD 0 = 10))
def endF (l : List Nat) (i j : Nat) : Bool := decide (i = j) && (decide (i = l.length) || decide ((l[i]?).getD 0 = 10))
def noF (_ _ : Nat) : Bool := false
def spansS (l : List Nat) : Nat → Tr → Nat → Nat → Bool
  | 0, _ => noF
  | k + 1, t =>
    let n := l.length + 1
    let fs := t.parts.map (spansS l k)
    if t.kind = 1 then eqF
    else if t.kind = 2 then byteF t.set l
    else if t.kind = 3 then fs.foldl (fun f g => thenF f g n) eqF
    else if t.kind = 4 then fs.foldl (fun f g i j => f i j || g i j) noF
    else if t.kind = 5 then fs.foldl (fun f g i j => f i j && g i j) (otherF noF)
    else if t.kind = 6 then otherF (fs.headD noF)
    else if t.kind = 7 then timesT (fs.headD noF) n t.lo.toNat t.hi
    else if t.kind = 8 then lookF (fs.headD noF) n false t.neg
    else if t.kind = 9 then lookF (fs.headD noF) n true t.neg
    else if t.kind = 10 then beginF l
    else if t.kind = 11 then endF l
    else noF

end Go.Proofs.YtcghclikkeajfaaGreat

/- What is claimed of the reference's Spans at patterns of so many levels; small facts for its walk. -/
namespace Go.Proofs.YtcghclikkeajfaaGreat
open Go.RowKit

def SpansAt (k : Nat) (l : List Nat) : Prop := ∀ (t : Tr) (A : Option Addr) (c : Nat) (w : World), Tr.In w k t → slimS k t → formedS k t = true → IsBytes w A l.length l → l.length ≤ 10 →
  Calls Tryz.prog 15 #[.agg t.cs.toArray, .slice A l.length c] w (Tabled w (l.length + 1) (spansS l k t))
theorem info_table : (Tryz.prog.info? 42).map (fun i => (i.zero, i.size, i.bytes)) = some (some (.slice none 0 0), 1, 24) := by kernel_rfl
/-- One cell of each row at most: the rows below i stand. -/
def diagTo (F : Nat → Nat → Bool) (i i' j' : Nat) : Bool := if i' < i then F i' j' else false
theorem diagTo_zero (F : Nat → Nat → Bool) (i' j' : Nat) : diagTo F 0 i' j' = noF i' j' := by unfold diagTo; rw [if_neg (Nat.not_lt_zero _)]; rfl
theorem diagTo_step {F : Nat → Nat → Bool} {i c : Nat} {v : Bool} (hF : ∀ j, j ≠ c → F i j = false) (hv : v = F i c) (i' j' : Nat) : (if i' = i ∧ j' = c then v else diagTo F i i' j') = diagTo F (i + 1) i' j' := by
  by_cases e : i' = i ∧ j' = c
  · obtain ⟨rfl, rfl⟩ := e
    rw [if_pos ⟨rfl, rfl⟩, hv]
    unfold diagTo
    rw [if_pos (by omega)]
  · rw [if_neg e]
    unfold diagTo
    by_cases c1 : i' < i
    · rw [if_pos c1, if_pos (by omega)]
    · rw [if_neg c1]
      by_cases c2 : i' = i
      · subst c2
        rw [if_pos (by omega), hF j' (fun q => e ⟨rfl, q⟩)]
      · rw [if_neg (by omega)]
theorem diagTo_end {F : Nat → Nat → Bool} {m i' j' : Nat} (h : i' < m) : diagTo F m i' j' = F i' j' := by unfold diagTo; rw [if_pos h]
theorem begin_off {l : List Nat} {i j : Nat} (h : j ≠ i) : beginF l i j = false := by unfold beginF; rw [decide_eq_false (fun q => h q.symm), Bool.false_and]
theorem end_off {l : List Nat} {i j : Nat} (h : j ≠ i) : endF l i j = false := by unfold endF; rw [decide_eq_false (fun q => h q.symm), Bool.false_and]
theorem byte_off {s : St} {l : List Nat} {i j : Nat} (h : j ≠ i + 1) : byteF s l i j = false := by unfold byteF; rw [decide_eq_false (fun q => h q.1), Bool.false_and]
theorem begin_0 {l : List Nat} : true = beginF l 0 0 := rfl
theorem begin_at {l : List Nat} {i m x : Nat} {v : Bool} (hm : i = m + 1) (hx : (l[m]?).getD 0 = x) (hv : v = decide (x = 10)) : v = beginF l i i := by
  subst hm; unfold beginF; rw [decide_eq_true rfl, Bool.true_and, decide_eq_false (by omega), Bool.false_or, show m + 1 - 1 = m from rfl, hx]; exact hv
theorem end_last {l : List Nat} {i : Nat} (h : i = l.length) : true = endF l i i := by unfold endF; rw [decide_eq_true rfl, decide_eq_true h]; rfl
theorem end_at {l : List Nat} {i x : Nat} {v : Bool} (hi : i < l.length) (hx : (l[i]?).getD 0 = x) (hv : v = decide (x = 10)) : v = endF l i i := by
  unfold endF; rw [decide_eq_true rfl, Bool.true_and, decide_eq_false (by omega), Bool.false_or, hx]; exact hv
theorem byte_at {s : St} {l : List Nat} {i x : Nat} {v : Bool} (hi : i < l.length) (hx : (l[i]?).getD 0 = x) (hv : v = s.has x) : v = byteF s l i (i + 1) := by
  unfold byteF; rw [decide_eq_true ⟨rfl, hi⟩, Bool.true_and, hx]; exact hv
theorem byte_last {s : St} {l : List Nat} {i j : Nat} (h : l.length ≤ i) : byteF s l i j = false := by unfold byteF; rw [decide_eq_false (fun q => by omega), Bool.false_and]
theorem at_types {w : World} {g h : Nat} {s t : TypeId} {cs ds : Array Value} (hg : At w g s cs) (hh : At w h t ds) (hne : s ≠ t) : g ≠ h := fun e => by
  subst e
  unfold At at hg hh
  rw [hg] at hh
  injection hh with hh
  injection hh with _ h2 _
  exact hne h2
theorem refBlankI (n : Nat) (hn : n ≤ 1000) (x : Int) (hx : x = (n : Int)) (w : World) : Calls Tryz.prog 28 #[.int .i64 x] w (Tabled w n noF) := by
  subst hx
  refine (refBlank n hn w).mono ?_
  rintro e w' ⟨rfl, h, hb⟩
  exact ⟨_, _, rfl, h, hb⟩
theorem refOneI (n : Nat) (hn : n ≤ 1000) (x : Int) (hx : x = (n : Int)) (w : World) : Calls Tryz.prog 29 #[.int .i64 x] w (Tabled w n eqF) := by
  subst hx
  exact refOne n hn w
section
variable {k n : Nat} {l : List Nat} {t : Tr}
theorem spans_0 (hk : t.kind = 0) (_ : n = l.length + 1) : spansS l (k + 1) t = noF := by unfold spansS; simp [hk]
theorem spans_1 (hk : t.kind = 1) (_ : n = l.length + 1) : spansS l (k + 1) t = eqF := by unfold spansS; simp [hk]
theorem spans_2 (hk : t.kind = 2) (_ : n = l.length + 1) : spansS l (k + 1) t = byteF t.set l := by unfold spansS; simp [hk]
theorem spans_3 (hk : t.kind = 3) (hn : n = l.length + 1) : spansS l (k + 1) t = (t.parts.map (spansS l k)).foldl (fun f g => thenF f g n) eqF := by subst hn; unfold spansS; simp [hk]
theorem spans_4 (hk : t.kind = 4) (_ : n = l.length + 1) : spansS l (k + 1) t = (t.parts.map (spansS l k)).foldl (fun f g i j => f i j || g i j) noF := by unfold spansS; simp [hk]
theorem spans_5 (hk : t.kind = 5) (_ : n = l.length + 1) : spansS l (k + 1) t = (t.parts.map (spansS l k)).foldl (fun f g i j => f i j && g i j) (otherF noF) := by unfold spansS; simp [hk]
theorem spans_6 (hk : t.kind = 6) (_ : n = l.length + 1) : spansS l (k + 1) t = otherF ((t.parts.map (spansS l k)).headD noF) := by unfold spansS; simp [hk]
theorem spans_7 (hk : t.kind = 7) (hn : n = l.length + 1) : spansS l (k + 1) t = timesT ((t.parts.map (spansS l k)).headD noF) n t.lo.toNat t.hi := by subst hn; unfold spansS; simp [hk]
theorem spans_8 (hk : t.kind = 8) (hn : n = l.length + 1) : spansS l (k + 1) t = lookF ((t.parts.map (spansS l k)).headD noF) n false t.neg := by subst hn; unfold spansS; simp [hk]
theorem spans_9 (hk : t.kind = 9) (hn : n = l.length + 1) : spansS l (k + 1) t = lookF ((t.parts.map (spansS l k)).headD noF) n true t.neg := by subst hn; unfold spansS; simp [hk]
theorem spans_10 (hk : t.kind = 10) (_ : n = l.length + 1) : spansS l (k + 1) t = beginF l := by unfold spansS; simp [hk]
theorem spans_11 (hk : t.kind = 11) (_ : n = l.length + 1) : spansS l (k + 1) t = endF l := by unfold spansS; simp [hk]
end

end Go.Proofs.YtcghclikkeajfaaGreat
