/- Joined: Inter, NormOrF. -/
import Derived.Test.YtcghclikkeajfaaGreatProg
import Derived.Test.YtcghclikkeajfaaGreatMa
import Derived.RegionTactic
import Derived.BigRegion
import Derived.LoopN
import Derived.Test.YtcghclikkeajfaaGreatMi
import Derived.Test.YtcghclikkeajfaaGreatNormJoined
/- What set.Inter answers, of any sets. -/
namespace Go.Proofs.YtcghclikkeajfaaGreat
open Go.RowKit

set_option maxHeartbeats 1000000 in
theorem setInter (s t : St) (hs : s.Ok) (ht : t.Ok) (w : World) :
    Calls Tryz.prog 75 #[.agg #[.int .u64 s.w0, .int .u64 s.w1, .int .u64 s.w2, .int .u64 s.w3], .agg #[.int .u64 t.w0, .int .u64 t.w1, .int .u64 t.w2, .int .u64 t.w3]] w fun e w' =>
      e = .returned (.agg #[.int .u64 (s.and t).w0, .int .u64 (s.and t).w1, .int .u64 (s.and t).w2, .int .u64 (s.and t).w3]) ∧ Below w.heap.size w w' := by
  have b0 := bits_and s.w0 t.w0 hs.o0 ht.o0
  have b1 := bits_and s.w1 t.w1 hs.o1 ht.o1
  have b2 := bits_and s.w2 t.w2 hs.o2 ht.o2
  have b3 := bits_and s.w3 t.w3 hs.o3 ht.o3
  go_enter Tryz.func75, Tryz.ntmps75
  go_wp2
  refine wp_loop_rounds 5 ?_
  iterate 4
    rw [rounds_succ]
    go_wp2
    go_region
    go_wp2
  rw [rounds_succ]
  go_wp2
  refine bodyPost_ret (v := .agg #[.int .u64 (s.and t).w0, .int .u64 (s.and t).w1, .int .u64 (s.and t).w2, .int .u64 (s.and t).w3]) (by simp [results, Tryz.results75, go_sem, St.and]) rfl ⟨rfl, ?_⟩
  repeat (first | exact Below.refl _ _ | refine Below.drew ?_ | refine Below.alloc ?_ (by simp; try omega) _)

end Go.Proofs.YtcghclikkeajfaaGreat

/- What comes of joined, for Or and And. -/
namespace Go.Proofs.YtcghclikkeajfaaGreat
open Go.RowKit
set_option linter.unusedSimpArgs false
set_option linter.unusedVariables false
set_option linter.unusedSectionVars false

def JoinG (ns : List Nd) (k : Int) (l : List Int) (more : List Nd) (r : Int) : Prop := JoinR (ns ++ more) k l r ∧ more.length ≤ memN ns k l + 3 ∧ ((∃ r0, JoinR ns k l r0) → more.length ≤ 3)
/-- What is handed to joined. -/
def ListOf (ns m1 : List Nd) (k : Int) (ms L : List Int) : Prop :=
  (m1 = [] ∧ L = ms.filter (otherB ns k) ∧ ∀ y ∈ ms, kd ns y ≠ 2) ∨ ∃ b U, L = ms.filter (otherB ns k) ++ [b] ∧ isIn (ns ++ m1) b ∧ ndAt (ns ++ m1) b.toNat = ⟨2, U, 0, 0, false⟩ ∧ BytesOf ns k ms U ∧ ∃ y ∈ ms, kd ns y = 2
section
variable {ns : List Nd} (hc : Canon ns) {k : Int} (hk : k = 4 ∨ k = 5)
include hc hk
theorem otherB_up (more : List Nd) {y : Int} (hy : isIn ns y) : otherB (ns ++ more) k y = otherB ns k y := by
  unfold otherB
  rw [kd_up hy, unitB_up hc.fine more hy]
theorem BytesOf.up {ms : List Int} {U : St} (h : BytesOf ns k ms U) (hm : ∀ y ∈ ms, isIn ns y) (more : List Nd) : BytesOf (ns ++ more) k ms U := by
  refine ⟨h.1, fun b hb => ?_⟩
  rw [h.2 b hb]
  constructor
  · rintro ⟨y, hy, h2, h3⟩
    exact ⟨y, hy, by rw [kd_up (hm y hy)]; exact h2, by rw [nd_up (hm y hy)]; exact h3⟩
  · rintro ⟨y, hy, h2, h3⟩
    rw [kd_up (hm y hy)] at h2
    rw [nd_up (hm y hy)] at h3
    exact ⟨y, hy, h2, h3⟩
omit hc hk in
theorem byte_kind {ns : List Nd} {b : Int} {U : St} (h : ndAt ns b.toNat = ⟨2, U, 0, 0, false⟩) : kd ns b = 2 := by unfold kd; rw [h]
omit hc in
theorem byte_no {ns : List Nd} {b : Int} (h : kd ns b = 2) : kd ns b ≠ k ∧ topB ns k b = false ∧ unitB ns k b = false := by
  refine ⟨by omega, ?_, ?_⟩
  · cases q : topB ns k b with
    | false => rfl
    | true => have := topB_kind q; omega
  · cases q : unitB ns k b with
    | false => rfl
    | true => have := unitB_kind q; omega
theorem ListOf.good {l ms L : List Int} {m1 : List Nd} (h : Coll ns k l ms) (hn : ∀ y ∈ ms, topB ns k y = false) (hL : ListOf ns m1 k ms L) : GoodL (ns ++ m1) k (sorted L) := by
  have hot : ∀ y ∈ ms.filter (otherB ns k), isIn (ns ++ m1) y ∧ kd (ns ++ m1) y ≠ k ∧ topB (ns ++ m1) k y = false ∧ unitB (ns ++ m1) k y = false ∧ kd (ns ++ m1) y ≠ 2 := fun y hy => by
    obtain ⟨h1, h2⟩ := List.mem_filter.1 hy
    have hi := h.inn hc hk h1
    unfold otherB at h2
    rw [Bool.and_eq_true, Bool.not_eq_true', Bool.not_eq_true', decide_eq_false_iff_not] at h2
    exact ⟨hi.1.up m1, by rw [kd_up hi.1]; exact hi.2, by rw [topB_up hc.fine m1 hi.1]; exact hn y h1, by rw [unitB_up hc.fine m1 hi.1]; exact h2.2, by rw [kd_up hi.1]; exact h2.1⟩
  have hnd : (ms.filter (otherB ns k)).Nodup := h.nd.filter _
  unfold sorted
  rcases hL with ⟨_, rfl, _⟩ | ⟨b, U, rfl, b1, b2, b3, b4⟩
  · exact good_list (ns := ns ++ m1) (k := k) (by exact hnd) (fun y hy => ⟨(hot y hy).1, (hot y hy).2.1, (hot y hy).2.2.1, (hot y hy).2.2.2.1⟩) (fun y hy z hz h2 _ => absurd h2 (hot y hy).2.2.2.2)
  · have hb2 := byte_kind b2
    refine good_list (ns := ns ++ m1) (k := k) (List.nodup_append.2 ⟨hnd, by simp, fun a ha c hc' => ?_⟩) (fun y hy => ?_) (fun y hy z hz h2 h3 => ?_)
    · rw [List.mem_singleton.1 hc']
      intro e
      rw [e] at ha
      exact (hot b ha).2.2.2.2 hb2
    · rcases List.mem_append.1 hy with hy | hy
      · exact ⟨(hot y hy).1, (hot y hy).2.1, (hot y hy).2.2.1, (hot y hy).2.2.2.1⟩
      · rw [List.mem_singleton.1 hy]
        exact ⟨b1, byte_no hk hb2⟩
    · rcases List.mem_append.1 hy with hy | hy
      · exact absurd h2 (hot y hy).2.2.2.2
      · rcases List.mem_append.1 hz with hz | hz
        · exact absurd h3 (hot z hz).2.2.2.2
        · rw [List.mem_singleton.1 hy, List.mem_singleton.1 hz]
omit hc hk in
theorem sorted_mem {L : List Int} {y : Int} : y ∈ sorted L ↔ y ∈ L := (List.mergeSort_perm L _).mem_iff
theorem ListOf.few {l ms L : List Int} {m1 : List Nd} (h : Coll ns k l ms) (hL : ListOf ns m1 k ms L) : L.length ≤ ms.length := by
  rcases hL with ⟨_, rfl, _⟩ | ⟨b, U, rfl, b1, b2, b3, y, hy, h2⟩
  · exact List.length_filter_le _ _
  · rw [List.length_append, List.length_singleton]
    have hno : otherB ns k y = false := by unfold otherB; rw [decide_eq_true h2]; rfl
    have : ∀ (m : List Int), y ∈ m → (m.filter (otherB ns k)).length + 1 ≤ m.length := by
      intro m
      induction m with
      | nil => intro q; cases q
      | cons c m ih =>
        intro q
        by_cases e : c = y
        · subst e
          rw [List.filter_cons, hno]
          have := List.length_filter_le (otherB ns k) m
          simp
          exact this
        · have hm : y ∈ m := by
            rcases List.mem_cons.1 q with q | q
            · exact absurd q.symm e
            · exact q
          have := ih hm
          rw [List.filter_cons]
          split
          · simp; omega
          · simp; omega
    exact this ms hy
theorem ListOf.join {l ms L : List Int} {m1 m2 : List Nd} {r : Int} (h : Coll ns k l ms) (hn : ∀ y ∈ ms, topB ns k y = false) (hL : ListOf ns m1 k ms L) (hc2 : Canon (ns ++ m1 ++ m2)) (hr : IsList (ns ++ m1 ++ m2) k (sorted L) r) : JoinR (ns ++ m1 ++ m2) k l r := by
  have hin : ∀ y ∈ ms, isIn ns y := fun y hy => (h.inn hc hk hy).1
  have hcol : Coll (ns ++ m1 ++ m2) k l ms := by rw [List.append_assoc]; exact h.up hc hk _
  have hn2 : ∀ y ∈ ms, topB (ns ++ m1 ++ m2) k y = false := fun y hy => by rw [List.append_assoc, topB_up hc.fine _ (hin y hy)]; exact hn y hy
  have hkd : ∀ y ∈ ms, kd (ns ++ m1 ++ m2) y = kd ns y := fun y hy => by rw [List.append_assoc, kd_up (hin y hy)]
  have hob : ∀ y ∈ ms, otherB (ns ++ m1 ++ m2) k y = otherB ns k y := fun y hy => by rw [List.append_assoc]; exact otherB_up hc hk _ (hin y hy)
  have hfil : ∀ y, y ∈ ms.filter (otherB ns k) ↔ y ∈ ms ∧ otherB (ns ++ m1 ++ m2) k y = true := fun y => by
    rw [List.mem_filter]
    constructor
    · rintro ⟨q1, q2⟩; exact ⟨q1, by rw [hob y q1]; exact q2⟩
    · rintro ⟨q1, q2⟩; exact ⟨q1, by rw [← hob y q1]; exact q2⟩
  have hno2 : ∀ y ∈ ms.filter (otherB ns k), kd (ns ++ m1 ++ m2) y ≠ 2 := fun y hy => by
    have := ((hfil y).1 hy).2
    unfold otherB at this
    rw [Bool.and_eq_true, Bool.not_eq_true', decide_eq_false_iff_not] at this
    exact this.1
  rcases hL with ⟨_, rfl, hnb⟩ | ⟨b, U, rfl, b1, b2, b3, y, hy, h2⟩
  · refine hcol.made hc2 hk hn2 hr (fun y h2 => by rw [sorted_mem]; exact hfil y) (Or.inr ⟨fun y hy => by rw [hkd y hy]; exact hnb y hy, fun c hc' => hno2 c (sorted_mem.1 hc')⟩)
  · have hb2 : ndAt (ns ++ m1 ++ m2) b.toNat = ⟨2, U, 0, 0, false⟩ := by rw [nd_up b1]; exact b2
    have hbk := byte_kind hb2
    refine hcol.made hc2 hk hn2 hr (fun z h2 => ?_) (Or.inl ⟨b, sorted_mem.2 (List.mem_append_right _ (by simp)), hbk, ⟨y, hy, by rw [hkd y hy]; exact h2⟩, ?_, fun c hc' h3 => ?_⟩)
    · rw [sorted_mem, List.mem_append, hfil z]
      constructor
      · rintro (q | q)
        · exact q
        · rw [List.mem_singleton.1 q] at h2; exact absurd hbk h2
      · intro q; exact Or.inl q
    · rw [hb2, List.append_assoc]
      exact b3.up hc hk hin _
    · rcases List.mem_append.1 (sorted_mem.1 hc') with q | q
      · exact absurd h3 (hno2 c q)
      · exact List.mem_singleton.1 q
end
section
variable {AA : World → Value → List Nd → (Nat → Prop) → Prop}
theorem joined_fin {ns : List Nd} (hc : Canon ns) {k : Int} (hk : k = 4 ∨ k = 5) {w w1 w2 : World} {a v : Value} {m1 : List Nd} {F F1 : Nat → Prop} {l ms L : List Int} {e : Ending} (h : Coll ns k l ms) (hn : ∀ y ∈ ms, topB ns k y = false) (hL : ListOf ns m1 k ms L) (hm1 : m1.length ≤ 1) (hF1 : ∀ b, F1 b → F b ∨ w.heap.size ≤ b) (ho1 : OffF F w w1) (hc1 : Canon (ns ++ m1)) (hv : ∀ b, v.ownBlock = some b → w.heap.size ≤ b) (hs1 : w.heap.size ≤ w1.heap.size)
    (hp : JoinedPost AA w1 a v (ns ++ m1) F1 k (sorted L) e w2) : Grows AA w a ns F (JoinG ns k l) e w2 := by
  obtain ⟨r, ns', F', rfl, h1, h2, h3, hst⟩ := hp
  obtain ⟨hc2, hls, more, rfl, hlen, hold⟩ := id hst
  rw [List.drop_zero] at hls
  have hj := hL.join hc hk h hn hc2 hls
  have hfew := hL.few hc hk h
  have hfew2 := h.few hc hk
  have hsl : (sorted L).length = L.length := List.length_mergeSort L
  refine ⟨r, m1 ++ more, F', rfl, by rw [← List.append_assoc]; exact h1, fun b q => ?_, ?_, by rw [← List.append_assoc]; exact hc2, by rw [← List.append_assoc]; exact hls.inn, by rw [← List.append_assoc]; exact hj, by rw [List.length_append]; omega, fun hex => ?_⟩
  · rcases h2 b q with q | q
    · exact hF1 b q
    · exact Or.inr (Nat.le_trans hs1 q)
  · refine ⟨h3.os.trans ho1.os, h3.tape.trans ho1.tape, h3.output.trans ho1.output, Nat.le_trans ho1.size h3.size, fun b hb hnb => ?_⟩
    rw [h3.block b (Nat.lt_of_lt_of_le hb ho1.size) (fun q => by
      rcases q with q | q
      · rcases hF1 b q with z | z
        · exact hnb z
        · omega
      · have := hv b q; omega)]
    exact ho1.block b hb hnb
  · have := join_old hc hk m1 more rfl hst hc1 hj h.lin hex
    have hmo : more = [] := List.append_right_eq_self.1 this
    rw [hmo, List.append_nil]
    omega
end

end Go.Proofs.YtcghclikkeajfaaGreat
