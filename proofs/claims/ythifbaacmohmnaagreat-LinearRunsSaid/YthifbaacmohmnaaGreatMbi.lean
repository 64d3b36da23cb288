/- Joined: Backward, NormJoined. -/
import Derived.RangeFuncNested
import Derived.RangeFuncBound
import Derived.RangeFuncCalls
import Derived.RangeFuncLeaves
import Derived.Shelf.Abstract
import Derived.WalkKit
import Derived.OwnWalkIn
import Derived.TacticsInMore
import Derived.LoopNIn
import Derived.LoopIn
import Derived.Test.YthifbaacmohmnaaGreatMam
import Derived.Test.YthifbaacmohmnaaGreatMbh
import Derived.Test.YthifbaacmohmnaaGreatMax
import Derived.Test.YthifbaacmohmnaaGreatMbf
/- slices.Backward of whole numbers: what it gives to a loop, from the last one on. -/
namespace Go.Proofs.YthifbaacmohmnaaGreat
open Go.RowKit Go.Shelf
set_option linter.unusedSimpArgs false
set_option linter.unusedVariables false

attribute [local go_sem] Oper.semAt_some

/-- A whole number of 64 bits. -/
abbrev Num := { x : Int // I64 x }
open Classical in
noncomputable def numOf (x : Int) : Num := if h : I64 x then ⟨x, h⟩ else ⟨0, by unfold I64; omega⟩
theorem numOf_is {x : Int} (h : I64 x) : (numOf x).1 = x := by unfold numOf; rw [dif_pos h]
/-- What has come behind k rounds. -/
noncomputable def backTo (zs : List Int) (k : Nat) : List (Nat × Num) := (List.range k).map (fun j => (zs.length - 1 - j, numOf (zs[zs.length - 1 - j]?.getD 0)))
theorem backTo_succ (zs : List Int) (k : Nat) : backTo zs (k + 1) = backTo zs k ++ [(zs.length - 1 - k, numOf (zs[zs.length - 1 - k]?.getD 0))] := by simp [backTo, List.range_succ]
theorem backTo_length (zs : List Int) (k : Nat) : (backTo zs k).length = k := by simp [backTo]
/-- The boxed slice and its row lie as they lay. -/
def KeepsTwo (b g : Nat) (W W' : World) : Prop := W'.heap[b]? = W.heap[b]? ∧ W'.heap[g]? = W.heap[g]?
theorem KeepsTwo.trans {b g : Nat} {A B C : World} (h : KeepsTwo b g A B) (k : KeepsTwo b g B C) : KeepsTwo b g A C := ⟨k.1.trans h.1, k.2.trans h.2⟩
theorem KeepsTwo.refl (b g : Nat) (A : World) : KeepsTwo b g A A := ⟨rfl, rfl⟩

set_option maxRecDepth 100000 in
set_option maxHeartbeats 4000000 in
theorem back1_in (F : Fence) (n : Nat) (h1 : F.fn 162) (hro : F.round = none) (hn : 1 ≤ n) (l Bs g cap : Nat) (zs : List Int) (hlen : zs.length ≤ 1000000) (hz : ∀ j, j < zs.length → I64 (zs[j]?.getD 0)) (J Jx : List (Nat × Num) → World → Prop)
    (hY : ∀ pre x W, J pre W → pre.length < zs.length → YieldAt F (n - 1) Tryz.prog l #[.int .i64 (x.1 : Int), .int .i64 x.2.1] W fun e W' =>
      (e = .returned (.bool true) ∧ J (pre ++ [x]) W' ∧ KeepsTwo Bs g W W') ∨ (e = .returned (.bool false) ∧ Jx (pre ++ [x]) W'))
    (W : World) (hBs : W.cell? ⟨Bs, 0, none⟩ = some (.slice (some ⟨g, 0, none⟩) zs.length cap)) (hc : ∀ j, j < zs.length → W.cell? ⟨g, j, none⟩ = some (.int .i64 (zs[j]?.getD 0))) (h0 : J [] W) :
    CallsIn F n Tryz.prog 162 #[.func (.yield l) #[] #[], .pointer (some ⟨Bs, 0, none⟩)] W fun e W' => (∃ v, e = .returned v) ∧
      ((∃ ys, ys = backTo zs zs.length ∧ J ys W') ∨ (∃ pre, (∃ k, k ≤ zs.length ∧ pre = backTo zs k) ∧ Jx pre W')) := by
  refine callsIn_of_wp Tryz.func162 rfl h1 ?_ hro
  simp only [Tryz.ntmps162, List.size_toArray, List.length_cons, List.length_nil, Nat.reduceAdd, Nat.reduceSub, Array.replicate_succ, Array.replicate_zero, List.push_toArray, List.append_toArray, List.nil_append, List.cons_append]
  obtain ⟨p, hp⟩ : ∃ p, p = zs.length := ⟨_, rfl⟩
  rw [← hp] at hBs
  have hw : IntKind.i64.wrap ((p : Int) - 1) = (p : Int) - 1 := by
    rw [IntWalk.i64_left]
    exact IntWalk.wrap64_in _ (by omega)
  gi_wp2
  gi_loopw [3] (fun i wr => ∃ q : Nat, q ≤ p ∧ i = .int .i64 ((q : Int) - 1) ∧ J (backTo zs (p - q)) wr ∧ KeepsTwo Bs g W wr)
    (fun i _ => (intOf i + 1).toNat)
  case atStart => exact ⟨p, Nat.le_refl _, by go_num, by rw [Nat.sub_self]; exact h0, KeepsTwo.refl _ _ _⟩
  case round =>
    obtain ⟨q, hq, rfl, hJs, hnx⟩ := hrel
    have hcx : ∀ j, j < zs.length → wr.cell? ⟨g, j, none⟩ = some (.int .i64 (zs[j]?.getD 0)) := fun j hj => (World.cell?_of_block hnx.2).trans (hc j hj)
    have hbx : wr.cell? ⟨Bs, 0, none⟩ = some (.slice (some ⟨g, 0, none⟩) p cap) := (World.cell?_of_block hnx.1).trans hBs
    cases q with
    | zero =>
      rw [show ((0 : Nat) : Int) - 1 = -1 from rfl]
      gi_wp2
      go_end0
      exact ⟨⟨_, rfl⟩, .inl ⟨_, rfl, by rw [Nat.sub_zero, hp] at hJs; exact hJs⟩⟩
    | succ q =>
      rw [show ((q + 1 : Nat) : Int) - 1 = (q : Int) by omega]
      have hq0 : (0 : Int) ≤ (q : Int) := by omega
      have hqp : (q : Int) < (p : Int) := by omega
      have hqw : IntKind.i64.wrap ((q : Int) - 1) = (q : Int) - 1 := by
        rw [IntWalk.i64_left]
        exact IntWalk.wrap64_in _ (by omega)
      obtain ⟨fn, tmps, assign, body, hy, hR⟩ := hY _ (q, numOf (zs[q]?.getD 0)) wr hJs (by rw [backTo_length]; omega)
      dsimp only at hy
      rw [numOf_is (hz q (by omega))] at hy
      have hcx' := hcx q (by omega)
      gi_wp2
      refine hR.mono ?_
      rintro e W3 (⟨rfl, hJ3, hk3⟩ | ⟨rfl, hJx3⟩)
      · gi_wp2
        go_roundw
        case rel => exact ⟨q, by omega, by go_num, by rw [show p - q = (p - (q + 1)) + 1 by omega, backTo_succ, show zs.length - 1 - (p - (q + 1)) = q by omega]; exact hJ3, hnx.trans hk3⟩
        case measure => simp [intOf] <;> omega
      · gi_wp2
        refine bodyPost_ret (results_none rfl _ _ _) rfl ?_
        exact ⟨⟨_, rfl⟩, .inr ⟨_, ⟨(p - (q + 1)) + 1, by omega, by rw [backTo_succ, show zs.length - 1 - (p - (q + 1)) = q by omega]⟩, hJx3⟩⟩

set_option maxHeartbeats 1000000 in
theorem back_in (F : Fence) (n : Nat) (h1 : F.fn 122) (hro : F.round = none) (v : Value) (a : Option Addr) (len cap : Nat) (hv : v = .slice a len cap) (w : World) :
    CallsIn F n Tryz.prog 122 #[v] w fun e w' => e = .returned (.func (.func 162) #[] #[.pointer (some ⟨w.heap.size, 0, none⟩)]) ∧ w' = w.alloc (.cells #[v] 80) := by
  subst hv
  refine callsIn_of_wp Tryz.func122 rfl h1 ?_ hro
  simp only [Tryz.ntmps122, List.size_toArray, List.length_cons, List.length_nil, Nat.reduceAdd, Nat.reduceSub, Array.replicate_succ, Array.replicate_zero, List.push_toArray, List.append_toArray, List.nil_append, List.cons_append]
  gi_wp2
  go_ret
  exact ⟨rfl, rfl⟩
theorem back_stops (F : Fence) (n : Nat) (h1 : F.fn 162) (hro : F.round = none) (hn : 1 ≤ n) (Bs g cap : Nat) (zs : List Int) (hlen : zs.length ≤ 1000000) (hz : ∀ j, j < zs.length → I64 (zs[j]?.getD 0)) (w : World) (hB : Bs < w.heap.size) (hg : g < w.heap.size)
    (hBs : w.cell? ⟨Bs, 0, none⟩ = some (.slice (some ⟨g, 0, none⟩) zs.length cap)) (hc : ∀ j, j < zs.length → w.cell? ⟨g, j, none⟩ = some (.int .i64 (zs[j]?.getD 0))) :
    SeqStopsK F n Tryz.prog 162 #[.pointer (some ⟨Bs, 0, none⟩)] (fun x : Nat × Num => #[Value.int .i64 (x.1 : Int), Value.int .i64 x.2.1]) (KeepsTwo Bs g) (fun ys => ys = backTo zs zs.length) (fun pre => ∃ k, k ≤ zs.length ∧ pre = backTo zs k) zs.length w := fun l J Jx W hW _ _ hY h0 =>
  back1_in F n h1 hro hn l Bs g cap zs hlen hz J Jx hY W ((hW.cell (p := ⟨Bs, 0, none⟩) hB).trans hBs) (fun j hj => (hW.cell (p := ⟨g, j, none⟩) hg).trans (hc j hj)) h0

end Go.Proofs.YthifbaacmohmnaaGreat

/- norm.joined: members, put together by their numbers. -/
namespace Go.Proofs.YthifbaacmohmnaaGreat
open Go.RowKit Go.Shelf
set_option linter.unusedSimpArgs false
set_option linter.unusedVariables false

attribute [local go_sem] Oper.semAt_some

section
variable {AA : World → Value → List Nd → (Nat → Prop) → Prop}
def sorted (l : List Int) : List Int := l.mergeSort fun x y => decide (x ≤ y)

/-- Between two rounds: what lies in the arena and in the variables of the loop. -/
structure JI (AB : World → Value → List Nd → (Nat → Prop) → Prop) (w : World) (a : Value) (ns : List Nd) (F : Nat → Prop) (k : Int) (sl zs : List Int) (p B g bi : Nat) (sv : Value) (pre : List (Nat × Num)) (W : World) (ns' : List Nd) (F' : Nat → Prop) (r : Int) : Prop where
  ab : AB W a ns' F'
  low : ∀ b, F' b → F b ∨ B ≤ b
  off : OffF (fun b => F b ∨ g = b) w W
  int : I64 r
  few : ns'.length ≤ ns.length + pre.length
  box : At W w.heap.size 26 #[a]
  kind : At W (w.heap.size + 1) 3 #[.int .i64 k]
  id : At W bi 3 #[.int .i64 r]
  size : B ≤ W.heap.size
  right : pre = backTo zs pre.length → StepR ns k sl (p - pre.length) ns' r
theorem at_kept {W W' : World} {b : Nat} {t : TypeId} {cs : Array Value} {row : Option Nat} (h : At W b t cs) (hg : W.grownBy W' row) (hr : ∀ r, row = some r → ∃ o : Obj, W.heap[r]? = some o ∧ o.isCells = false) : At W' b t cs :=
  (hg.block b h.lt (fun e => by
    obtain ⟨o, ho, hc⟩ := hr b e.symm
    rw [h] at ho
    cases ho
    cases hc)).trans h

end

end Go.Proofs.YthifbaacmohmnaaGreat
