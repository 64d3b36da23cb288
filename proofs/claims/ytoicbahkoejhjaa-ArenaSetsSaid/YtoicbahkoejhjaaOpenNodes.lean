/- Nodes that are handed in, one or a list: as data and as cells. -/
import Derived.Test.YtoicbahkoejhjaaProg
import Derived.Test.YtoicbahkoejhjaaOpenTr
import Derived.Test.YtoicbahkoejhjaaNode
namespace Go.Proofs.Ytoicbahkoejhjaa
open Go.ChangeShapes Go.WideShapes Go.ChangeAt Go.RowKit

instance : Inhabited Nd := ⟨Nd.zero⟩
/-- What a node's fields can hold at all. -/
def NdFit (x : Nd) : Prop := I64 x.kind ∧ x.set.Ok ∧ I64 x.a ∧ I64 x.b
section
variable {H : Type} {enc : TypeId × Value → H} {P : Program} {w : World} {base : Nat} {spare : Nat → Bool} {held : Bool}
theorem open_node_cells {T S U I B : TypeId} {f0 f1 f2 f3 f4 : Field} (hT : P.underlying T = some (.struct #[f0, f1, f2, f3, f4]))
    (e0 : f0.type = I ∧ f0.offset = 0) (e1 : f1.type = S ∧ f1.offset = 1) (e2 : f2.type = I ∧ f2.offset = 5) (e3 : f3.type = I ∧ f3.offset = 6) (e4 : f4.type = B ∧ f4.offset = 7)
    (hS : P.underlying S = some (.array 4 U)) (hU : P.underlying U = some (.int .u64)) (hI : P.underlying I = some (.int .i64)) (hB : P.underlying B = some .bool)
    (cT : P.cellsOf T = 8) (cS : P.cellsOf S = 4) (cU : P.cellsOf U = 1) (cI : P.cellsOf I = 1) (cB : P.cellsOf B = 1)
    {fuel : Nat} {cs : List Value} {x : DataW H × List MemPlace} (h : DataW.trod enc P w base spare held fuel T cs = some x) : ∃ t : Nd, NdFit t ∧ cs = t.cs := by
  obtain ⟨xs, m, rfl, _, hl, hxl, hf⟩ := DataW.trod_struct hT h
  rw [cT] at hl
  obtain ⟨c0, c1, c2, c3, c4, c5, c6, c7, rfl⟩ : ∃ c0 c1 c2 c3 c4 c5 c6 c7, cs = [c0, c1, c2, c3, c4, c5, c6, c7] := by
    match cs, hl with
    | [c0, c1, c2, c3, c4, c5, c6, c7], _ => exact ⟨_, _, _, _, _, _, _, _, rfl⟩
  have hx : ∀ i, i < 5 → ∃ y, xs[i]? = some y := fun i hi => ⟨xs[i]'(by rw [hxl]; exact hi), List.getElem?_eq_getElem _⟩
  obtain ⟨y0, hy0⟩ := hx 0 (by omega)
  obtain ⟨y1, hy1⟩ := hx 1 (by omega)
  obtain ⟨y2, hy2⟩ := hx 2 (by omega)
  obtain ⟨y3, hy3⟩ := hx 3 (by omega)
  obtain ⟨y4, hy4⟩ := hx 4 (by omega)
  have t0 := hf 0 f0 rfl
  have t1 := hf 1 f1 rfl
  have t2 := hf 2 f2 rfl
  have t3 := hf 3 f3 rfl
  have t4 := hf 4 f4 rfl
  rw [e0.1, e0.2, cI, hy0] at t0
  rw [e1.1, e1.2, cS, hy1] at t1
  rw [e2.1, e2.2, cI, hy2] at t2
  rw [e3.1, e3.2, cI, hy3] at t3
  rw [e4.1, e4.2, cB, hy4] at t4
  simp only [List.drop_zero, List.drop_succ_cons, List.take_succ_cons, List.take_zero] at t0 t1 t2 t3 t4
  obtain ⟨kind, g0, _, w0⟩ := DataW.trod_int hI t0
  obtain ⟨s, hs, rfl, rfl, rfl, rfl⟩ := set_of_cells hS hU cU t1
  obtain ⟨a, g2, _, w2⟩ := DataW.trod_int hI t2
  obtain ⟨b, g3, _, w3⟩ := DataW.trod_int hI t3
  obtain ⟨neg, g4, _⟩ := DataW.trod_bool hB t4
  injection g0 with g0 _
  injection g2 with g2 _
  injection g3 with g3 _
  injection g4 with g4 _
  subst g0 g2 g3 g4
  exact ⟨⟨kind, s, a, b, neg⟩, ⟨i64_of_wf w0, hs, i64_of_wf w2, i64_of_wf w3⟩, rfl⟩
theorem open_nodes {r : Reach} {b0 : Nat} {L T S U I B : TypeId} {f0 f1 f2 f3 f4 : Field} {v : Value} {d : DataW H} {p : List MemPlace} (hu : P.underlying L = some (.slice T)) (hT : P.underlying T = some (.struct #[f0, f1, f2, f3, f4]))
    (e0 : f0.type = I ∧ f0.offset = 0) (e1 : f1.type = S ∧ f1.offset = 1) (e2 : f2.type = I ∧ f2.offset = 5) (e3 : f3.type = I ∧ f3.offset = 6) (e4 : f4.type = B ∧ f4.offset = 7)
    (hS : P.underlying S = some (.array 4 U)) (hU : P.underlying U = some (.int .u64)) (hI : P.underlying I = some (.int .i64)) (hB : P.underlying B = some .bool)
    (cT : P.cellsOf T = 8) (cS : P.cellsOf S = 4) (cU : P.cellsOf U = 1) (cI : P.cellsOf I = 1) (cB : P.cellsOf B = 1)
    (hv : Value.okWide P w r b0 L v) (h : DataW.Trod enc P w base spare held L v d p) : ∃ (A : Option Addr) (n c : Nat) (l : List Nd), n = l.length ∧ NdsAt w (.slice A n c) l ∧ (∀ j, j < l.length → NdFit (ndAt l j)) ∧ n ≤ c ∧ c ≤ 9223372036854775807 ∧ v = .slice A n c := by
  obtain ⟨A, n, c, rfl⟩ := okWide_slice hu hv
  obtain ⟨fuel, hf⟩ := h
  rcases Deep.open_slice hu hf with ⟨hcs, _⟩ | ⟨x, len, cap, m, k, D, Pl, hcs, _, hlc, hm, hmm, _, hcell⟩
  · simp [Value.cells] at hcs
    obtain ⟨rfl, rfl, rfl⟩ := hcs
    exact ⟨none, 0, 0, [], rfl, ⟨none, 0, rfl, Nat.zero_le _, fun h => absurd h (Nat.lt_irrefl _)⟩, fun j hj => absurd hj (Nat.not_lt_zero _), Nat.le_refl _, Nat.zero_le _, rfl⟩
  · simp [Value.cells] at hcs
    obtain ⟨rfl, rfl, rfl⟩ := hcs
    have hnm : n ≤ m := by rw [hmm]; split <;> omega
    have hc63 : c ≤ 9223372036854775807 := by unfold maxLen at hm; omega
    obtain ⟨b, off, spot⟩ := x
    by_cases hn : n = 0
    · subst hn
      exact ⟨some ⟨b, off, spot⟩, 0, c, [], rfl, ⟨some ⟨b, off, spot⟩, c, rfl, Nat.zero_le _, fun h => absurd h (Nat.lt_irrefl _)⟩, fun j hj => absurd hj (Nat.not_lt_zero _), hlc, hc63, rfl⟩
    have hspot : spot = none := by
      obtain ⟨cs', hc, ht⟩ := hcell 0 (by omega)
      obtain ⟨t, _, rfl⟩ := open_node_cells hT e0 e1 e2 e3 e4 hS hU hI hB cT cS cU cI cB ht
      rw [cT] at hc
      unfold World.cells? at hc
      split at hc
      · have := mapM_some_get hc 0 0 (by simp)
        have h0 : w.cell? ((({ block := b, off := off, spot := spot } : Addr).add (0 * 8)).add 0) = some (.int .i64 t.kind) := this
        have := World.cell?_spot h0
        simpa [Addr.add] using this
      · cases hc
    subst hspot
    have each : ∀ i, i < n → ∃ s : Nd, NdFit s ∧ w.rangeAt b (off + i * 8) s.cs := by
      intro i hi
      obtain ⟨cs', hc, ht⟩ := hcell i (by omega)
      obtain ⟨t, hfit, rfl⟩ := open_node_cells hT e0 e1 e2 e3 e4 hS hU hI hB cT cS cU cI cB ht
      rw [cT, add_plain'] at hc
      exact ⟨t, hfit, range_of_cells hc⟩
    obtain ⟨f, hf'⟩ := Deep.choose_lt each
    have hat : ∀ j, j < n → ndAt ((List.range n).map f) j = f j := fun j hj => by rw [ndAt_lt (by simpa using hj)]; simp
    refine ⟨some ⟨b, off, none⟩, n, c, (List.range n).map f, by simp, ⟨some ⟨b, off, none⟩, c, by simp, by simp; omega, fun _ => ⟨b, off, rfl, ?_, fun j hj => ?_⟩⟩, fun j hj => ?_, hlc, hc63, rfl⟩
    · have := (hf' 0 (by omega)).2 0 (.int .i64 (f 0).kind) rfl
      exact block_lt_of_cell this
    · have hj' : j < n := by simpa using hj
      rw [hat j hj']; exact (hf' j hj').2
    · have hj' : j < n := by simpa using hj
      rw [hat j hj']; exact (hf' j hj').1
theorem open_node {r : Reach} {b0 : Nat} {T S U I B : TypeId} {f0 f1 f2 f3 f4 : Field} {v : Value} {d : DataW H} {p : List MemPlace} (hT : P.underlying T = some (.struct #[f0, f1, f2, f3, f4]))
    (e0 : f0.type = I ∧ f0.offset = 0) (e1 : f1.type = S ∧ f1.offset = 1) (e2 : f2.type = I ∧ f2.offset = 5) (e3 : f3.type = I ∧ f3.offset = 6) (e4 : f4.type = B ∧ f4.offset = 7)
    (hS : P.underlying S = some (.array 4 U)) (hU : P.underlying U = some (.int .u64)) (hI : P.underlying I = some (.int .i64)) (hB : P.underlying B = some .bool)
    (cT : P.cellsOf T = 8) (cS : P.cellsOf S = 4) (cU : P.cellsOf U = 1) (cI : P.cellsOf I = 1) (cB : P.cellsOf B = 1)
    (hv : Value.okWide P w r b0 T v) (h : DataW.Trod enc P w base spare held T v d p) : ∃ t : Nd, NdFit t ∧ v = .agg t.cs.toArray := by
  obtain ⟨cs, rfl, hsz, _⟩ : ∃ cs, v = .agg cs ∧ cs.size = P.cellsOf T ∧ Row.okWide P w r b0 T cs := by
    simpa [Value.okWide, hT] using hv
  obtain ⟨fuel, hf⟩ := h
  obtain ⟨t, hfit, ht⟩ := open_node_cells hT e0 e1 e2 e3 e4 hS hU hI hB cT cS cU cI cB hf
  refine ⟨t, hfit, ?_⟩
  simp only [Value.cells] at ht
  rw [← ht]
end

end Go.Proofs.Ytoicbahkoejhjaa
