/- A pattern that is handed in: as data and as cells. -/
import Derived.Test.YtoicbahkoejhjaaProg
import Derived.Test.YtoicbahkoejhjaaWords
import Derived.Test.YtoicbahkoejhjaaOpen
import Derived.Test.YtoicbahkoejhjaaTr
import Derived.Test.YtoicbahkoejhjaaOpenSets
import Derived.Deep.Slices
import Derived.OpenShut
namespace Go.Proofs.Ytoicbahkoejhjaa
open Go.ChangeShapes Go.WideShapes Go.ChangeAt Go.RowKit

instance : Inhabited Tr := ⟨.node 0 ⟨0, 0, 0, 0⟩ none 0 0 [] 0 0 false⟩
theorem Tr.In.le {w : World} {k : Nat} {t : Tr} (h : Tr.In w k t) : ∀ (j : Nat), Tr.In w (k + j) t
  | 0 => h
  | j + 1 => Tr.In.up _ _ (Tr.In.le h j)
theorem range_of_cells {w : World} {base b off n : Nat} {cs : List Value} (h : w.cells? base ⟨b, off, none⟩ n = some cs) : w.rangeAt b off cs := by
  unfold World.cells? at h
  split at h
  · intro j v hv
    have hj := mapM_some_get h j j
    have hl : j < cs.length := (List.getElem?_eq_some_iff.1 hv).1
    have hn : cs.length = n := by simpa using mapM_some_length h
    have := hj (by rw [List.getElem?_eq_getElem (by rw [List.length_range]; omega), List.getElem_range])
    rw [add_plain'] at this
    rw [this]; exact hv
  · cases h
theorem map_range_at {α : Type} (f : Nat → α) (n j : Nat) (h : j < ((List.range n).map f).length) : ((List.range n).map f)[j]'h = f j := by simp
theorem i64_of_wf {n : Int} (h : (Lit.int .i64 n).wf = true) : I64 n := by
  have := bounds_i64 h
  unfold I64; omega
section
variable {H : Type} {enc : TypeId × Value → H} {P : Program} {w : World} {base : Nat} {spare : Nat → Bool} {held : Bool}
theorem open_tr_cells {T S L U I B : TypeId} {f0 f1 f2 f3 f4 f5 : Field} (hT : P.underlying T = some (.struct #[f0, f1, f2, f3, f4, f5]))
    (e0 : f0.type = I ∧ f0.offset = 0) (e1 : f1.type = S ∧ f1.offset = 1) (e2 : f2.type = L ∧ f2.offset = 5) (e3 : f3.type = I ∧ f3.offset = 6) (e4 : f4.type = I ∧ f4.offset = 7) (e5 : f5.type = B ∧ f5.offset = 8)
    (hS : P.underlying S = some (.array 4 U)) (hU : P.underlying U = some (.int .u64)) (hL : P.underlying L = some (.slice T)) (hI : P.underlying I = some (.int .i64)) (hB : P.underlying B = some .bool)
    (cT : P.cellsOf T = 9) (cS : P.cellsOf S = 4) (cU : P.cellsOf U = 1) (cL : P.cellsOf L = 1) (cI : P.cellsOf I = 1) (cB : P.cellsOf B = 1) :
    ∀ (fuel : Nat) (cs : List Value) (x : DataW H × List MemPlace), DataW.trod enc P w base spare held fuel T cs = some x → ∃ t : Tr, Tr.In w fuel t ∧ cs = t.cs := by
  intro fuel
  induction fuel using Nat.strongRecOn with
  | _ fuel ih =>
  intro cs x h
  obtain ⟨xs, m, rfl, _, hl, hxl, hf⟩ := DataW.trod_struct hT h
  rw [cT] at hl
  obtain ⟨c0, c1, c2, c3, c4, c5, c6, c7, c8, rfl⟩ : ∃ c0 c1 c2 c3 c4 c5 c6 c7 c8, cs = [c0, c1, c2, c3, c4, c5, c6, c7, c8] := by
    match cs, hl with
    | [c0, c1, c2, c3, c4, c5, c6, c7, c8], _ => exact ⟨_, _, _, _, _, _, _, _, _, rfl⟩
  have hx : ∀ i, i < 6 → ∃ y, xs[i]? = some y := fun i hi => ⟨xs[i]'(by rw [hxl]; exact hi), List.getElem?_eq_getElem _⟩
  obtain ⟨y0, hy0⟩ := hx 0 (by omega)
  obtain ⟨y1, hy1⟩ := hx 1 (by omega)
  obtain ⟨y2, hy2⟩ := hx 2 (by omega)
  obtain ⟨y3, hy3⟩ := hx 3 (by omega)
  obtain ⟨y4, hy4⟩ := hx 4 (by omega)
  obtain ⟨y5, hy5⟩ := hx 5 (by omega)
  have t0 := hf 0 f0 rfl
  have t1 := hf 1 f1 rfl
  have t2 := hf 2 f2 rfl
  have t3 := hf 3 f3 rfl
  have t4 := hf 4 f4 rfl
  have t5 := hf 5 f5 rfl
  rw [e0.1, e0.2, cI, hy0] at t0
  rw [e1.1, e1.2, cS, hy1] at t1
  rw [e2.1, e2.2, cL, hy2] at t2
  rw [e3.1, e3.2, cI, hy3] at t3
  rw [e4.1, e4.2, cI, hy4] at t4
  rw [e5.1, e5.2, cB, hy5] at t5
  simp only [List.drop_zero, List.drop_succ_cons, List.take_succ_cons, List.take_zero] at t0 t1 t2 t3 t4 t5
  obtain ⟨kind, g0, _, w0⟩ := DataW.trod_int hI t0
  obtain ⟨s, hs, rfl, rfl, rfl, rfl⟩ := set_of_cells hS hU cU t1
  obtain ⟨lo, g3, _, w3⟩ := DataW.trod_int hI t3
  obtain ⟨hi, g4, _, w4⟩ := DataW.trod_int hI t4
  obtain ⟨neg, g5, _⟩ := DataW.trod_bool hB t5
  injection g0 with g0 _
  injection g3 with g3 _
  injection g4 with g4 _
  injection g5 with g5 _
  subst g0 g3 g4 g5
  rcases DataW.trod_slice hL t2 with ⟨hcs, _⟩ | ⟨a, len, cap, elems, rest, k, hmk, hcs, _, _, hlc, hcm, hlen, hel, _, _⟩
  · injection hcs with hcs _
    subst hcs
    exact ⟨.node kind s none 0 0 [] lo hi neg, ⟨⟨hs, i64_of_wf w0, i64_of_wf w3, i64_of_wf w4⟩, ⟨rfl, by show (0 : Nat) ≤ _; omega⟩, fun h0 => absurd h0 (Nat.lt_irrefl 0), fun j hj => absurd hj (Nat.not_lt_zero _)⟩, rfl⟩
  · injection hcs with hcs _
    subst hcs
    have hmax : len ≤ 9223372036854775807 := by unfold maxLen at hcm; omega
    by_cases hn : len = 0
    · subst hn
      exact ⟨.node kind s (some a) 0 cap [] lo hi neg, ⟨⟨hs, i64_of_wf w0, i64_of_wf w3, i64_of_wf w4⟩, ⟨rfl, by show (0 : Nat) ≤ _; omega⟩, fun h0 => absurd h0 (Nat.lt_irrefl 0), fun j hj => absurd hj (Nat.not_lt_zero _)⟩, rfl⟩
    have hcell : ∀ i, i < len → ∃ cs' y, w.cells? base (a.add (i * P.cellsOf T)) (P.cellsOf T) = some cs' ∧ DataW.trod enc P w base spare held k T cs' = some y := by
      intro i hi
      have h := hel i hi
      rw [List.getElem?_eq_getElem (by omega), Option.bind_eq_some_iff] at h
      obtain ⟨cs', h1, h2⟩ := h
      exact ⟨cs', _, h1, h2⟩
    obtain ⟨b, off, spot⟩ := a
    have hspot : spot = none := by
      obtain ⟨cs', _, hc, _⟩ := hcell 0 (by omega)
      rw [cT] at hc
      unfold World.cells? at hc
      split at hc
      · have := mapM_some_get hc 0 0 (by simp)
        cases hq : w.cell? ((({ block := b, off := off, spot := spot } : Addr).add (0 * 9)).add 0) with
        | none =>
          have hl9 : cs'.length = 9 := by simpa using mapM_some_length hc
          rw [hq, List.getElem?_eq_getElem (by omega)] at this
          cases this
        | some v =>
          have := World.cell?_spot hq
          simpa [Addr.add] using this
      · cases hc
    subst hspot
    have each : ∀ i, i < len → ∃ t : Tr, Tr.In w m t ∧ w.rangeAt b (off + i * 9) t.cs := by
      intro i hi
      obtain ⟨cs', _, hc, ht⟩ := hcell i hi
      rw [cT, add_plain'] at hc
      have hk : k < m + 1 := by omega
      obtain ⟨t, hin, rfl⟩ := ih k hk cs' _ ht
      refine ⟨t, ?_, range_of_cells hc⟩
      have := Tr.In.le hin (m - k)
      rwa [show k + (m - k) = m from by omega] at this
    obtain ⟨f, hf'⟩ := Deep.choose_lt each
    refine ⟨.node kind s (some ⟨b, off, none⟩) len cap ((List.range len).map f) lo hi neg, ⟨⟨hs, i64_of_wf w0, i64_of_wf w3, i64_of_wf w4⟩, ⟨by show len = ((List.range len).map f).length; simp, hmax⟩, fun h0 => ⟨b, off, rfl, ?_, ?_⟩, ?_⟩, rfl⟩
    · have := (hf' 0 h0).2 0 _ rfl
      exact block_lt_of_cell this
    · intro j hj
      have hj' : j < len := by have : j < ((List.range len).map f).length := hj; simpa using this
      have h1 := (hf' j hj').2
      have e := map_range_at f len j hj
      show w.rangeAt b (off + j * 9) (((List.range len).map f)[j]'hj).cs
      rw [e]; exact h1
    · intro j hj
      have hj' : j < len := by have : j < ((List.range len).map f).length := hj; simpa using this
      have h1 := (hf' j hj').1
      have e := map_range_at f len j hj
      show Tr.In w m (((List.range len).map f)[j]'hj)
      rw [e]; exact h1
theorem open_tr {r : Reach} {b0 : Nat} {T S L U I B : TypeId} {v : Value} {d : DataW H} {p : List MemPlace} {f0 f1 f2 f3 f4 f5 : Field} (hT : P.underlying T = some (.struct #[f0, f1, f2, f3, f4, f5]))
    (e0 : f0.type = I ∧ f0.offset = 0) (e1 : f1.type = S ∧ f1.offset = 1) (e2 : f2.type = L ∧ f2.offset = 5) (e3 : f3.type = I ∧ f3.offset = 6) (e4 : f4.type = I ∧ f4.offset = 7) (e5 : f5.type = B ∧ f5.offset = 8)
    (hS : P.underlying S = some (.array 4 U)) (hU : P.underlying U = some (.int .u64)) (hL : P.underlying L = some (.slice T)) (hI : P.underlying I = some (.int .i64)) (hB : P.underlying B = some .bool)
    (cT : P.cellsOf T = 9) (cS : P.cellsOf S = 4) (cU : P.cellsOf U = 1) (cL : P.cellsOf L = 1) (cI : P.cellsOf I = 1) (cB : P.cellsOf B = 1)
    (hv : Value.okWide P w r b0 T v) (h : DataW.Trod enc P w base spare held T v d p) : ∃ (k : Nat) (t : Tr), Tr.In w k t ∧ v = .agg t.cs.toArray := by
  obtain ⟨cs, rfl, hsz, _⟩ : ∃ cs, v = .agg cs ∧ cs.size = P.cellsOf T ∧ Row.okWide P w r b0 T cs := by
    simpa [Value.okWide, hT] using hv
  obtain ⟨fuel, hf⟩ := h
  obtain ⟨t, hin, e⟩ := open_tr_cells hT e0 e1 e2 e3 e4 e5 hS hU hL hI hB cT cS cU cL cI cB fuel _ _ hf
  refine ⟨fuel, t, hin, ?_⟩
  rw [← e]
  simp [Value.cells]
end

end Go.Proofs.Ytoicbahkoejhjaa
