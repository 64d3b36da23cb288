/- Joined: NormOr, Inter. -/
import Derived.Test.YthifbaacmohmnaaGreatMbk
import Derived.Test.YthifbaacmohmnaaGreatMbf
import Derived.Test.YthifbaacmohmnaaGreatProg
import Derived.Test.YthifbaacmohmnaaGreatMaa
import Derived.RegionTactic
import Derived.BigRegion
import Derived.LoopN
/- norm.Or: what one of the nodes matches. -/
namespace Go.Proofs.YthifbaacmohmnaaGreat
open Go.RowKit
set_option linter.unusedSimpArgs false
set_option linter.unusedVariables false

def setC (s : St) : Array Value := #[.int .u64 s.w0, .int .u64 s.w1, .int .u64 s.w2, .int .u64 s.w3]
theorem setC_one (s : St) : (setC s).all (fun x => x.oneCell') = true := by simp [setC, Value.oneCell']
theorem BytesOf.nil {ns : List Nd} : BytesOf ns 4 [] noSt := by
  refine ⟨⟨by unfold U64; exact Nat.zero_lt_succ _, by unfold U64; exact Nat.zero_lt_succ _, by unfold U64; exact Nat.zero_lt_succ _, by unfold U64; exact Nat.zero_lt_succ _⟩, fun b hb => ?_⟩
  have h0 : noSt.has b = false := by
    unfold noSt St.has St.word
    split
    · simp
    · split
      · simp
      · split <;> simp
  rw [h0]
  constructor
  · intro q; cases q
  · rintro ⟨y, hy, _⟩; cases hy
theorem BytesOf.skip {ns : List Nd} {k y : Int} {ms : List Int} {U : St} (h : BytesOf ns k ms U) (hy : kd ns y ≠ 2) : BytesOf ns k (ms ++ [y]) U := by
  refine ⟨h.1, fun b hb => ?_⟩
  rw [h.2 b hb]
  constructor
  · rintro ⟨z, hz, q⟩; exact ⟨z, List.mem_append_left _ hz, q⟩
  · rintro ⟨z, hz, q⟩
    rcases List.mem_append.1 hz with hz | hz
    · exact ⟨z, hz, q⟩
    · rw [List.mem_singleton.1 hz] at q; exact absurd q.1 hy
theorem BytesOf.or {ns : List Nd} {y : Int} {ms : List Int} {U : St} (h : BytesOf ns 4 ms U) (hy : kd ns y = 2) (ho : (ndAt ns y.toNat).set.Ok) : BytesOf ns 4 (ms ++ [y]) (U.or (ndAt ns y.toNat).set) := by
  refine ⟨St.or_ok h.1 ho, fun b hb => ?_⟩
  have e : (decide ((4 : Int) = 5)) = false := rfl
  have := h.2 b hb
  rw [e, Bool.bne_false] at this
  rw [e, Bool.bne_false, has_or, Bool.or_eq_true, this]
  constructor
  · rintro (⟨z, hz, q1, q2⟩ | q)
    · exact ⟨z, List.mem_append_left _ hz, q1, q2⟩
    · exact ⟨y, List.mem_append_right _ (by simp), hy, by rw [Bool.bne_false]; exact q⟩
  · rintro ⟨z, hz, q1, q2⟩
    rcases List.mem_append.1 hz with hz | hz
    · exact Or.inl ⟨z, hz, q1, q2⟩
    · rw [List.mem_singleton.1 hz, Bool.bne_false] at q2; exact Or.inr q2
theorem filter_snoc_yes {p : Int → Bool} {l : List Int} {y : Int} (h : p y = true) : (l ++ [y]).filter p = l.filter p ++ [y] := by rw [List.filter_append]; simp [h]
theorem filter_snoc_no {p : Int → Bool} {l : List Int} {y : Int} (h : p y = false) : (l ++ [y]).filter p = l.filter p := by rw [List.filter_append]; simp [h]
section
variable {AA : World → Value → List Nd → (Nat → Prop) → Prop}
/-- Between two rounds of Or and And. -/
structure OrI (w : World) (ns : List Nd) (k : Int) (ms : List Int) (u0 : Nat) (j : Nat) (v6 v17 : Value) (U : St) (wr : World) : Prop where
  row : IdRow wr (w.heap.size + 1) v6 ((ms.take j).filter (otherB ns k))
  src : IdRow wr (w.heap.size + 1) v17 ms
  apart : v6.ownBlock = none ∨ v6.ownBlock ≠ v17.ownBlock
  set : At wr u0 46 (setC U)
  bytes : BytesOf ns k (ms.take j) U
  top : ∀ y ∈ ms.take j, topB ns k y = false
  below : Below w.heap.size w wr
  size : w.heap.size + 1 ≤ wr.heap.size
theorem OrI.next {w : World} {ns : List Nd} {k : Int} {ms : List Int} {u0 j : Nat} {v6 v17 : Value} {U : St} {wr w' : World} (h : OrI w ns k ms u0 j v6 v17 U wr) (hb : Below wr.heap.size wr w') : OrI w ns k ms u0 j v6 v17 U w' :=
  ⟨h.row.next hb, h.src.next hb, h.apart, (hb.block _ h.set.lt).trans h.set, h.bytes, h.top, h.below.trans (hb.mono h.below.size), Nat.le_trans h.size hb.size⟩
theorem take_snoc {ms : List Int} {j : Nat} (h : j < ms.length) : ms.take (j + 1) = ms.take j ++ [ms[j]] := by rw [List.take_add_one, List.getElem?_eq_getElem h]; rfl
/-- A Bytes. -/
theorem OrI.bytesStep {w : World} {ns : List Nd} {k : Int} {ms : List Int} {j : Nat} {v6 v17 : Value} {U U' : St} {wr : World} (h : OrI w ns k ms w.heap.size j v6 v17 U wr) (hj : j < ms.length) (hk : k = 4 ∨ k = 5) (h2 : kd ns (ms[j]) = 2) (hU : BytesOf ns k (ms.take j ++ [ms[j]]) U') : OrI w ns k ms w.heap.size (j + 1) v6 v17 U' (wr.setRow w.heap.size (setC U')) := by
  have hno : otherB ns k (ms[j]) = false := by unfold otherB; rw [decide_eq_true h2]; rfl
  have hot : ∀ b, b ≠ w.heap.size → (wr.setRow w.heap.size (setC U')).heap[b]? = wr.heap[b]? := fun b hb => setRow_other _ _ _ _ hb
  have hgb : wr.grownBy (wr.setRow w.heap.size (setC U')) (some w.heap.size) := ⟨rfl, rfl, rfl, by rw [setRow_size]; exact Nat.le_refl _, fun b _ hn => hot b (fun e => hn (by rw [e]))⟩
  refine ⟨?_, h.src.grown hgb (fun c e q => by injection e with e; have := (h.src.lt q).1; omega), h.apart, At.row h.set _, by rw [take_snoc hj]; exact hU, fun y hy => ?_, ?_, by rw [setRow_size]; exact h.size⟩
  · rw [take_snoc hj, filter_snoc_no hno]
    exact h.row.grown hgb (fun c e q => by injection e with e; have := (h.row.lt q).1; omega)
  · rw [take_snoc hj] at hy
    rcases List.mem_append.1 hy with hy | hy
    · exact h.top y hy
    · rw [List.mem_singleton.1 hy]
      cases q : topB ns k (ms[j]) with
      | false => rfl
      | true => have := topB_kind q; omega
  · exact h.below.grown hgb h.below.size (fun c e => by injection e with e; omega)
/-- One that does nothing. -/
theorem OrI.skipStep {w : World} {ns : List Nd} {k : Int} {ms : List Int} {u0 j : Nat} {v6 v17 : Value} {U : St} {wr : World} (h : OrI w ns k ms u0 j v6 v17 U wr) (hj : j < ms.length) (h2 : kd ns (ms[j]) ≠ 2) (hu : unitB ns k (ms[j]) = true) (ht : topB ns k (ms[j]) = false) : OrI w ns k ms u0 (j + 1) v6 v17 U wr := by
  have hno : otherB ns k (ms[j]) = false := by unfold otherB; rw [hu]; simp
  refine ⟨by rw [take_snoc hj, filter_snoc_no hno]; exact h.row, h.src, h.apart, h.set, by rw [take_snoc hj]; exact h.bytes.skip h2, fun y hy => ?_, h.below, h.size⟩
  rw [take_snoc hj] at hy
  rcases List.mem_append.1 hy with hy | hy
  · exact h.top y hy
  · rw [List.mem_singleton.1 hy]; exact ht
/-- Another one. -/
theorem OrI.otherStep {w : World} {ns : List Nd} {k : Int} {ms : List Int} {j : Nat} {v6 v6' v17 : Value} {U : St} {wr w' : World} (h : OrI w ns k ms w.heap.size j v6 v17 U wr) (hj : j < ms.length) (h2 : kd ns (ms[j]) ≠ 2) (hu : unitB ns k (ms[j]) = false) (ht : topB ns k (ms[j]) = false)
    (hr : w'.ownsRow (w.heap.size + 1) 3 1 v6' (((ms.take j).filter (otherB ns k)).length + 1) (idL ((ms.take j).filter (otherB ns k)) ++ [.int .i64 (ms[j])])) (hg : wr.grownBy w' v6.ownBlock) (hat : v6'.ownBlock = v6.ownBlock ∨ v6'.ownBlock = some wr.heap.size) : OrI w ns k ms w.heap.size (j + 1) v6' v17 U w' := by
  have hyes : otherB ns k (ms[j]) = true := by unfold otherB; rw [decide_eq_false h2, hu]; rfl
  refine ⟨?_, h.src.grown hg (fun c e q => ?_), ?_, (hg.block _ h.set.lt (fun e => by have := (h.row.lt e.symm).1; omega)).trans h.set, by rw [take_snoc hj]; exact h.bytes.skip h2, fun y hy => ?_, h.below.grown hg h.below.size (fun c e => by have := (h.row.lt e).1; omega), Nat.le_trans h.size hg.size⟩
  · rw [take_snoc hj, filter_snoc_yes hyes]
    unfold IdRow
    rw [List.length_append]
    unfold idL
    rw [List.map_append]
    exact hr
  · rcases h.apart with z | z
    · rw [z] at e; cases e
    · exact z (by rw [e, q])
  · rcases hat with z | z
    · rw [z]; exact h.apart
    · right
      rw [z]
      intro q
      have := (h.src.lt q.symm).2
      omega
  · rw [take_snoc hj] at hy
    rcases List.mem_append.1 hy with hy | hy
    · exact h.top y hy
    · rw [List.mem_singleton.1 hy]; exact ht

end

end Go.Proofs.YthifbaacmohmnaaGreat

/- What set.Inter answers, of any sets. -/
namespace Go.Proofs.YthifbaacmohmnaaGreat
open Go.RowKit

set_option maxHeartbeats 1000000 in
theorem setInter (s t : St) (hs : s.Ok) (ht : t.Ok) (w : World) :
    Calls Tryz.prog 130 #[.agg #[.int .u64 s.w0, .int .u64 s.w1, .int .u64 s.w2, .int .u64 s.w3], .agg #[.int .u64 t.w0, .int .u64 t.w1, .int .u64 t.w2, .int .u64 t.w3]] w fun e w' =>
      e = .returned (.agg #[.int .u64 (s.and t).w0, .int .u64 (s.and t).w1, .int .u64 (s.and t).w2, .int .u64 (s.and t).w3]) ∧ Below w.heap.size w w' := by
  have b0 := bits_and s.w0 t.w0 hs.o0 ht.o0
  have b1 := bits_and s.w1 t.w1 hs.o1 ht.o1
  have b2 := bits_and s.w2 t.w2 hs.o2 ht.o2
  have b3 := bits_and s.w3 t.w3 hs.o3 ht.o3
  go_enter Tryz.func130, Tryz.ntmps130
  go_wp2
  refine wp_loop_rounds 5 ?_
  iterate 4
    rw [rounds_succ]
    go_wp2
    go_region
    go_wp2
  rw [rounds_succ]
  go_wp2
  refine bodyPost_ret (v := .agg #[.int .u64 (s.and t).w0, .int .u64 (s.and t).w1, .int .u64 (s.and t).w2, .int .u64 (s.and t).w3]) (by simp [results, Tryz.results130, go_sem, St.and]) rfl ⟨rfl, ?_⟩
  repeat (first | exact Below.refl _ _ | refine Below.drew ?_ | refine Below.alloc ?_ (by simp; try omega) _)

end Go.Proofs.YthifbaacmohmnaaGreat
