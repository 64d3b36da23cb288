/- Joined: Open, OpenSets, OpenTr, OpenNodes. -/
import Derived.Test.YtcghclikkeajfaaProg
import Derived.Test.YtcghclikkeajfaaMa
import Derived.ProofKit
import Derived.OpenShut
import Derived.Laws.IdiomArrays
import Derived.Deep.Slices
import Derived.Test.YtcghclikkeajfaaNode
/- A set that is handed in by value, as data and as four words. -/
namespace Go.Proofs.Ytcghclikkeajfaa
open Go.ChangeShapes Go.WideShapes Go.ChangeAt Go.RowKit

theorem own : ownKnob Try.prog.godebug = none := by kernel_rfl
theorem laidOut : laidOutB Try.prog = true := by kernel_rfl
theorem list_of_four {α : Type} (l : List α) (h : (⟨l⟩ : Array α).size = 4) : ∃ a b c d, l = [a, b, c, d] := by
  match l, h with
  | [a, b, c, d], _ => exact ⟨a, b, c, d, rfl⟩
theorem u64_of_wf {n : Int} (h : (Lit.int .u64 n).wf = true) : ∃ k : Nat, n = (k : Int) ∧ U64 k := by
  obtain ⟨h1, h2⟩ := bounds_u64 h
  refine ⟨n.toNat, by omega, ?_⟩
  unfold U64
  omega
section
variable {H : Type} {enc : TypeId × Value → H} {P : Program} {w : World} {base : Nat} {spare : Nat → Bool} {held : Bool}
theorem open_set {r : Reach} {b0 : Nat} {T E : TypeId} {v : Value} {d : DataW H} {p : List MemPlace} (hu : P.underlying T = some (.array 4 E)) (hE : P.underlying E = some (.int .u64)) (hcT : P.cellsOf T = 4) (hcE : P.cellsOf E = 1)
    (hv : Value.okWide P w r b0 T v) (h : DataW.Trod enc P w base spare held T v d p) : ∃ s : St, s.Ok ∧ v = .agg #[.int .u64 s.w0, .int .u64 s.w1, .int .u64 s.w2, .int .u64 s.w3] := by
  obtain ⟨cs, rfl, hsz, _⟩ : ∃ cs, v = .agg cs ∧ cs.size = P.cellsOf T ∧ Row.okWide P w r b0 T cs := by
    simpa [Value.okWide, hu] using hv
  rw [hcT] at hsz
  obtain ⟨l⟩ := cs
  obtain ⟨c0, c1, c2, c3, rfl⟩ := list_of_four l hsz
  obtain ⟨fuel, hf⟩ := h
  obtain ⟨y0, y1, y2, y3, m, _, hy0, hy1, hy2, hy3⟩ := trod_array4 hu hcE hf
  obtain ⟨x0, e0, _, w0⟩ := DataW.trod_int hE hy0
  obtain ⟨x1, e1, _, w1⟩ := DataW.trod_int hE hy1
  obtain ⟨x2, e2, _, w2⟩ := DataW.trod_int hE hy2
  obtain ⟨x3, e3, _, w3⟩ := DataW.trod_int hE hy3
  simp at e0 e1 e2 e3
  subst e0 e1 e2 e3
  obtain ⟨k0, rfl, u0⟩ := u64_of_wf w0
  obtain ⟨k1, rfl, u1⟩ := u64_of_wf w1
  obtain ⟨k2, rfl, u2⟩ := u64_of_wf w2
  obtain ⟨k3, rfl, u3⟩ := u64_of_wf w3
  exact ⟨⟨k0, k1, k2, k3⟩, ⟨u0, u1, u2, u3⟩, rfl⟩
theorem open_byte {r : Reach} {b0 : Nat} {T : TypeId} {v : Value} {d : DataW H} {p : List MemPlace} (hu : P.underlying T = some (.int .u8)) (hv : Value.okWide P w r b0 T v) (h : DataW.Trod enc P w base spare held T v d p) :
    ∃ b : Nat, b < 256 ∧ v = .int .u8 b := by
  obtain ⟨x, rfl, _, _, wx⟩ := open_int hu hv h
  obtain ⟨h1, h2⟩ := bounds_u8 wx
  refine ⟨x.toNat, by omega, ?_⟩
  rw [Int.toNat_of_nonneg h1]
theorem open_bytes {r : Reach} {b0 : Nat} {T E : TypeId} {v : Value} {d : DataW H} {p : List MemPlace} (hu : P.underlying T = some (.slice E)) (hE : P.underlying E = some (.int .u8)) (hcE : P.cellsOf E = 1)
    (hv : Value.okWide P w r b0 T v) (h : DataW.Trod enc P w base spare held T v d p) : ∃ (A : Option Addr) (n c : Nat) (l : List Nat), IsBytes w A n l ∧ v = .slice A n c := by
  obtain ⟨A, n, c, rfl⟩ := okWide_slice hu hv
  obtain ⟨fuel, hf⟩ := h
  rcases open_ints hu hE hcE hf with ⟨hcs, _⟩ | ⟨x, len, cap, zs, hcs, _, hl, hm, hz, _, hcell, hwz⟩
  · simp [Value.cells] at hcs
    obtain ⟨rfl, rfl, rfl⟩ := hcs
    exact ⟨none, 0, 0, [], ⟨rfl, by omega, fun k hk => by simp at hk, fun h0 => by omega⟩, rfl⟩
  · simp [Value.cells] at hcs
    obtain ⟨rfl, rfl, rfl⟩ := hcs
    have hzn : n ≤ zs.length := by rw [hz]; split <;> omega
    have hb : ∀ k, k < zs.length → 0 ≤ zs.getD k 0 ∧ zs.getD k 0 ≤ 255 := by
      intro k hk
      refine bounds_u8 (hwz _ ?_)
      rw [List.getD_eq_getElem?_getD, List.getElem?_eq_getElem hk]
      exact List.getElem_mem _
    refine ⟨some x, n, c, (zs.take n).map Int.toNat, ⟨?_, ?_, ?_, ?_⟩, rfl⟩
    · simp; omega
    · unfold maxLen at hm; omega
    · intro k hk
      simp at hk
      have h1 := hb k (by omega)
      rw [List.getD_eq_getElem?_getD, List.getElem?_eq_getElem (by omega)] at h1
      simp at h1 ⊢
      omega
    · intro h0
      have hc0 := hcell 0 (by omega)
      obtain ⟨b, off, spot⟩ := x
      have hspot : spot = none := by simpa [Addr.add] using World.cell?_spot hc0
      subst hspot
      refine ⟨b, off, rfl, ?_, ?_⟩
      · exact block_lt_of_cell (a := ⟨b, off, none⟩) (by simpa [Addr.add] using hc0)
      · intro k hk
        simp at hk
        have h1 := hb k (by omega)
        have h2 := hcell k (by omega)
        rw [List.getD_eq_getElem?_getD, List.getElem?_eq_getElem (by omega)] at h1 h2
        have hadd : (⟨b, off, none⟩ : Addr).add k = ⟨b, off + k, none⟩ := by unfold Addr.add; split <;> simp_all
        rw [hadd] at h2
        simp at h1 h2 ⊢
        rw [h2]
        congr 2
        omega
theorem trod_below {t : TypeId} {v : Value} {d : DataW H} {p : List MemPlace} (h : DataW.Trod enc P w base spare held t v d p) : ∀ x ∈ p, x.block < w.heap.size := by
  obtain ⟨m, hm⟩ := h; exact DataW.trod_lt m _ _ _ hm
end

end Go.Proofs.Ytcghclikkeajfaa

/- A list of sets, and classes, that are handed in: as data and as cells. -/
namespace Go.Proofs.Ytcghclikkeajfaa
open Go.ChangeShapes Go.WideShapes Go.ChangeAt Go.RowKit

instance : Inhabited St := ⟨⟨0, 0, 0, 0⟩⟩
theorem cells4 {w : World} {base : Nat} {a : Addr} {cs : List Value} (h : w.cells? base a 4 = some cs) :
    ∃ c0 c1 c2 c3, cs = [c0, c1, c2, c3] ∧ w.cell? (a.add 0) = some c0 ∧ w.cell? (a.add 1) = some c1 ∧ w.cell? (a.add 2) = some c2 ∧ w.cell? (a.add 3) = some c3 := by
  unfold World.cells? at h
  split at h
  · rw [show List.range 4 = [0, 1, 2, 3] from by decide] at h
    simp only [List.mapM_cons, List.mapM_nil, bind, Option.bind_eq_some_iff, pure, Option.some.injEq] at h
    obtain ⟨c0, h0, r0, ⟨c1, h1, r1, ⟨c2, h2, r2, ⟨c3, h3, r3, rfl, rfl⟩, rfl⟩, rfl⟩, rfl⟩ := h
    exact ⟨c0, c1, c2, c3, rfl, h0, h1, h2, h3⟩
  · cases h

section
variable {H : Type} {enc : TypeId × Value → H} {P : Program} {w : World} {base : Nat} {spare : Nat → Bool} {held : Bool}
theorem set_of_cells {fuel : Nat} {T E : TypeId} {c0 c1 c2 c3 : Value} {x : DataW H × List MemPlace} (hu : P.underlying T = some (.array 4 E)) (hE : P.underlying E = some (.int .u64)) (hcE : P.cellsOf E = 1)
    (h : DataW.trod enc P w base spare held fuel T [c0, c1, c2, c3] = some x) : ∃ s : St, s.Ok ∧ c0 = .int .u64 s.w0 ∧ c1 = .int .u64 s.w1 ∧ c2 = .int .u64 s.w2 ∧ c3 = .int .u64 s.w3 := by
  obtain ⟨y0, y1, y2, y3, m, _, hy0, hy1, hy2, hy3⟩ := trod_array4 hu hcE h
  obtain ⟨x0, e0, _, w0⟩ := DataW.trod_int hE hy0
  obtain ⟨x1, e1, _, w1⟩ := DataW.trod_int hE hy1
  obtain ⟨x2, e2, _, w2⟩ := DataW.trod_int hE hy2
  obtain ⟨x3, e3, _, w3⟩ := DataW.trod_int hE hy3
  simp at e0 e1 e2 e3
  subst e0 e1 e2 e3
  obtain ⟨k0, rfl, u0⟩ := u64_of_wf w0
  obtain ⟨k1, rfl, u1⟩ := u64_of_wf w1
  obtain ⟨k2, rfl, u2⟩ := u64_of_wf w2
  obtain ⟨k3, rfl, u3⟩ := u64_of_wf w3
  exact ⟨⟨k0, k1, k2, k3⟩, ⟨u0, u1, u2, u3⟩, rfl, rfl, rfl, rfl⟩
theorem add_plain' (b o j : Nat) : (⟨b, o, none⟩ : Addr).add j = ⟨b, o + j, none⟩ := by unfold Addr.add; split <;> simp_all
theorem open_sets {r : Reach} {b0 : Nat} {T E U : TypeId} {v : Value} {d : DataW H} {p : List MemPlace} (hu : P.underlying T = some (.slice E)) (hE : P.underlying E = some (.array 4 U)) (hU : P.underlying U = some (.int .u64)) (hcE : P.cellsOf E = 4) (hcU : P.cellsOf U = 1)
    (hv : Value.okWide P w r b0 T v) (h : DataW.Trod enc P w base spare held T v d p) : ∃ (A : Option Addr) (n c : Nat) (l : List St), IsSets w A n l ∧ v = .slice A n c := by
  obtain ⟨A, n, c, rfl⟩ := okWide_slice hu hv
  obtain ⟨fuel, hf⟩ := h
  rcases Deep.open_slice hu hf with ⟨hcs, _⟩ | ⟨x, len, cap, m, k, D, Pl, hcs, _, hl, hm, hmm, _, hcell⟩
  · simp [Value.cells] at hcs
    obtain ⟨rfl, rfl, rfl⟩ := hcs
    exact ⟨none, 0, 0, [], IsSets.nil _ _, rfl⟩
  · simp [Value.cells] at hcs
    obtain ⟨rfl, rfl, rfl⟩ := hcs
    have hnm : n ≤ m := by rw [hmm]; split <;> omega
    obtain ⟨b, off, spot⟩ := x
    by_cases hn : n = 0
    · subst hn
      exact ⟨some ⟨b, off, spot⟩, 0, c, [], IsSets.nil _ _, rfl⟩
    have hspot : spot = none := by
      obtain ⟨cs', hc, _⟩ := hcell 0 (by omega)
      rw [hcE] at hc
      obtain ⟨c0, c1, c2, c3, rfl, h0, _⟩ := cells4 hc
      have := World.cell?_spot h0
      simpa [Addr.add] using this
    subst hspot
    have each : ∀ i, i < n → ∃ s : St, s.Ok ∧ (w.cell? ⟨b, off + i * 4, none⟩ = some (.int .u64 s.w0) ∧ w.cell? ⟨b, off + i * 4 + 1, none⟩ = some (.int .u64 s.w1) ∧ w.cell? ⟨b, off + i * 4 + 2, none⟩ = some (.int .u64 s.w2) ∧ w.cell? ⟨b, off + i * 4 + 3, none⟩ = some (.int .u64 s.w3)) := by
      intro i hi
      obtain ⟨cs', hc, ht⟩ := hcell i (by omega)
      rw [hcE] at hc
      obtain ⟨c0, c1, c2, c3, rfl, h0, h1, h2, h3⟩ := cells4 hc
      obtain ⟨s, hs, rfl, rfl, rfl, rfl⟩ := set_of_cells hE hU hcU ht
      rw [add_plain', add_plain'] at h0 h1 h2 h3
      exact ⟨s, hs, h0, h1, h2, h3⟩
    obtain ⟨f, hf'⟩ := Deep.choose_lt each
    refine ⟨some ⟨b, off, none⟩, n, c, (List.range n).map f, ⟨by simp, by unfold maxLen at hm; omega, ?_, ?_⟩, rfl⟩
    · intro i hi
      simp at hi
      simpa using (hf' i hi).1
    · intro h0
      obtain ⟨_, c0, _⟩ := hf' 0 h0
      refine ⟨b, off, rfl, block_lt_of_cell c0, ?_⟩
      intro i hi
      simp at hi
      obtain ⟨_, hh⟩ := hf' i hi
      simpa using hh
theorem open_cl {r : Reach} {b0 : Nat} {T R B I : TypeId} {f0 f1 : Field} {v : Value} {d : DataW H} {p : List MemPlace} (hu : P.underlying T = some (.struct #[f0, f1])) (e0 : f0.type = R ∧ f0.offset = 0) (e1 : f1.type = I ∧ f1.offset = 256)
    (hR : P.underlying R = some (.array 256 B)) (hB : P.underlying B = some (.int .u8)) (hI : P.underlying I = some (.int .i64)) (hcT : P.cellsOf T = 257) (hcR : P.cellsOf R = 256) (hcB : P.cellsOf B = 1) (hcI : P.cellsOf I = 1)
    (hv : Value.okWide P w r b0 T v) (h : DataW.Trod enc P w base spare held T v d p) : ∃ c : Cl, c.Ok ∧ v = .agg c.cells := by
  obtain ⟨cs, rfl, hsz, _⟩ : ∃ cs, v = .agg cs ∧ cs.size = P.cellsOf T ∧ Row.okWide P w r b0 T cs := by
    simpa [Value.okWide, hu] using hv
  rw [hcT] at hsz
  obtain ⟨fuel, hf⟩ := h
  obtain ⟨y0, y1, m, _, _, h0, h1⟩ := trod_struct2 hu hf
  rw [e0.1, e0.2, hcR] at h0
  rw [e1.1, e1.2, hcI] at h1
  simp only [Value.cells] at h0 h1
  obtain ⟨N, eN, _, _⟩ := DataW.trod_int hI h1
  obtain ⟨xs, m', _, _, _, hx, hel⟩ := DataW.trod_array hR h0
  have each : ∀ i, i < 256 → ∃ x : Nat, x < 256 ∧ cs[i]? = some (.int .u8 (x : Nat)) := by
    intro i hi
    have hi' := hel i hi
    rw [hcB, List.getElem?_eq_getElem (by omega), Nat.mul_one] at hi'
    obtain ⟨z, ez, _, wz⟩ := DataW.trod_int hB hi'
    obtain ⟨z1, z2⟩ := bounds_u8 wz
    refine ⟨z.toNat, by omega, ?_⟩
    rw [Int.toNat_of_nonneg z1]
    have hg : (((List.drop 0 cs.toList).take 256).drop i)[0]? = some (.int .u8 z) := by
      have := congrArg (fun l : List Value => l[0]?) ez
      simpa using this
    simpa [hi] using hg
  obtain ⟨f, hf'⟩ := Deep.choose_lt each
  refine ⟨⟨f, N⟩, fun k hk => (hf' k hk).1, ?_⟩
  congr 1
  apply Array.ext_getElem?
  intro i
  by_cases hi : i < 256
  · rw [Cl.get _ i hi, (hf' i hi).2]
  · by_cases h2 : i = 256
    · subst h2
      rw [Cl.getN]
      have := congrArg (fun l : List Value => l[0]?) eN
      simpa using this
    · rw [Array.getElem?_eq_none (by omega), Array.getElem?_eq_none (by rw [Cl.size]; omega)]
end

end Go.Proofs.Ytcghclikkeajfaa

/- A pattern that is handed in: as data and as cells. -/
namespace Go.Proofs.Ytcghclikkeajfaa
open Go.ChangeShapes Go.WideShapes Go.ChangeAt Go.RowKit

instance : Inhabited Tr := ⟨.node 0 ⟨0, 0, 0, 0⟩ none 0 0 [] 0 0 false⟩
theorem Tr.In.le {w : World} {k : Nat} {t : Tr} (h : Tr.In w k t) : ∀ (j : Nat), Tr.In w (k + j) t
  | 0 => h
  | j + 1 => Tr.In.up _ _ (Tr.In.le h j)
theorem range_of_cells {w : World} {base b off n : Nat} {cs : List Value} (h : w.cells? base ⟨b, off, none⟩ n = some cs) : w.rangeAt b off cs := by
  unfold World.cells? at h
  split at h
  · intro j v hv
    have hj := mapM_some_get h j j
    have hl : j < cs.length := (List.getElem?_eq_some_iff.1 hv).1
    have hn : cs.length = n := by simpa using mapM_some_length h
    have := hj (by rw [List.getElem?_eq_getElem (by rw [List.length_range]; omega), List.getElem_range])
    rw [add_plain'] at this
    rw [this]; exact hv
  · cases h
theorem map_range_at {α : Type} (f : Nat → α) (n j : Nat) (h : j < ((List.range n).map f).length) : ((List.range n).map f)[j]'h = f j := by simp
theorem i64_of_wf {n : Int} (h : (Lit.int .i64 n).wf = true) : I64 n := by
  have := bounds_i64 h
  unfold I64; omega
section
variable {H : Type} {enc : TypeId × Value → H} {P : Program} {w : World} {base : Nat} {spare : Nat → Bool} {held : Bool}
theorem open_tr_cells {T S L U I B : TypeId} {f0 f1 f2 f3 f4 f5 : Field} (hT : P.underlying T = some (.struct #[f0, f1, f2, f3, f4, f5]))
    (e0 : f0.type = I ∧ f0.offset = 0) (e1 : f1.type = S ∧ f1.offset = 1) (e2 : f2.type = L ∧ f2.offset = 5) (e3 : f3.type = I ∧ f3.offset = 6) (e4 : f4.type = I ∧ f4.offset = 7) (e5 : f5.type = B ∧ f5.offset = 8)
    (hS : P.underlying S = some (.array 4 U)) (hU : P.underlying U = some (.int .u64)) (hL : P.underlying L = some (.slice T)) (hI : P.underlying I = some (.int .i64)) (hB : P.underlying B = some .bool)
    (cT : P.cellsOf T = 9) (cS : P.cellsOf S = 4) (cU : P.cellsOf U = 1) (cL : P.cellsOf L = 1) (cI : P.cellsOf I = 1) (cB : P.cellsOf B = 1) :
    ∀ (fuel : Nat) (cs : List Value) (x : DataW H × List MemPlace), DataW.trod enc P w base spare held fuel T cs = some x → ∃ t : Tr, Tr.In w fuel t ∧ cs = t.cs := by
  intro fuel
  induction fuel using Nat.strongRecOn with
  | _ fuel ih =>
  intro cs x h
  obtain ⟨xs, m, rfl, _, hl, hxl, hf⟩ := DataW.trod_struct hT h
  rw [cT] at hl
  obtain ⟨c0, c1, c2, c3, c4, c5, c6, c7, c8, rfl⟩ : ∃ c0 c1 c2 c3 c4 c5 c6 c7 c8, cs = [c0, c1, c2, c3, c4, c5, c6, c7, c8] := by
    match cs, hl with
    | [c0, c1, c2, c3, c4, c5, c6, c7, c8], _ => exact ⟨_, _, _, _, _, _, _, _, _, rfl⟩
  have hx : ∀ i, i < 6 → ∃ y, xs[i]? = some y := fun i hi => ⟨xs[i]'(by rw [hxl]; exact hi), List.getElem?_eq_getElem _⟩
  obtain ⟨y0, hy0⟩ := hx 0 (by omega)
  obtain ⟨y1, hy1⟩ := hx 1 (by omega)
  obtain ⟨y2, hy2⟩ := hx 2 (by omega)
  obtain ⟨y3, hy3⟩ := hx 3 (by omega)
  obtain ⟨y4, hy4⟩ := hx 4 (by omega)
  obtain ⟨y5, hy5⟩ := hx 5 (by omega)
  have t0 := hf 0 f0 rfl
  have t1 := hf 1 f1 rfl
  have t2 := hf 2 f2 rfl
  have t3 := hf 3 f3 rfl
  have t4 := hf 4 f4 rfl
  have t5 := hf 5 f5 rfl
  rw [e0.1, e0.2, cI, hy0] at t0
  rw [e1.1, e1.2, cS, hy1] at t1
  rw [e2.1, e2.2, cL, hy2] at t2
  rw [e3.1, e3.2, cI, hy3] at t3
  rw [e4.1, e4.2, cI, hy4] at t4
  rw [e5.1, e5.2, cB, hy5] at t5
  simp only [List.drop_zero, List.drop_succ_cons, List.take_succ_cons, List.take_zero] at t0 t1 t2 t3 t4 t5
  obtain ⟨kind, g0, _, w0⟩ := DataW.trod_int hI t0
  obtain ⟨s, hs, rfl, rfl, rfl, rfl⟩ := set_of_cells hS hU cU t1
  obtain ⟨lo, g3, _, w3⟩ := DataW.trod_int hI t3
  obtain ⟨hi, g4, _, w4⟩ := DataW.trod_int hI t4
  obtain ⟨neg, g5, _⟩ := DataW.trod_bool hB t5
  injection g0 with g0 _
  injection g3 with g3 _
  injection g4 with g4 _
  injection g5 with g5 _
  subst g0 g3 g4 g5
  rcases DataW.trod_slice hL t2 with ⟨hcs, _⟩ | ⟨a, len, cap, elems, rest, k, hmk, hcs, _, _, hlc, hcm, hlen, hel, _, _⟩
  · injection hcs with hcs _
    subst hcs
    exact ⟨.node kind s none 0 0 [] lo hi neg, ⟨⟨hs, i64_of_wf w0, i64_of_wf w3, i64_of_wf w4⟩, ⟨rfl, by show (0 : Nat) ≤ _; omega⟩, fun h0 => absurd h0 (Nat.lt_irrefl 0), fun j hj => absurd hj (Nat.not_lt_zero _)⟩, rfl⟩
  · injection hcs with hcs _
    subst hcs
    have hmax : len ≤ 9223372036854775807 := by unfold maxLen at hcm; omega
    by_cases hn : len = 0
    · subst hn
      exact ⟨.node kind s (some a) 0 cap [] lo hi neg, ⟨⟨hs, i64_of_wf w0, i64_of_wf w3, i64_of_wf w4⟩, ⟨rfl, by show (0 : Nat) ≤ _; omega⟩, fun h0 => absurd h0 (Nat.lt_irrefl 0), fun j hj => absurd hj (Nat.not_lt_zero _)⟩, rfl⟩
    have hcell : ∀ i, i < len → ∃ cs' y, w.cells? base (a.add (i * P.cellsOf T)) (P.cellsOf T) = some cs' ∧ DataW.trod enc P w base spare held k T cs' = some y := by
      intro i hi
      have h := hel i hi
      rw [List.getElem?_eq_getElem (by omega), Option.bind_eq_some_iff] at h
      obtain ⟨cs', h1, h2⟩ := h
      exact ⟨cs', _, h1, h2⟩
    obtain ⟨b, off, spot⟩ := a
    have hspot : spot = none := by
      obtain ⟨cs', _, hc, _⟩ := hcell 0 (by omega)
      rw [cT] at hc
      unfold World.cells? at hc
      split at hc
      · have := mapM_some_get hc 0 0 (by simp)
        cases hq : w.cell? ((({ block := b, off := off, spot := spot } : Addr).add (0 * 9)).add 0) with
        | none =>
          have hl9 : cs'.length = 9 := by simpa using mapM_some_length hc
          rw [hq, List.getElem?_eq_getElem (by omega)] at this
          cases this
        | some v =>
          have := World.cell?_spot hq
          simpa [Addr.add] using this
      · cases hc
    subst hspot
    have each : ∀ i, i < len → ∃ t : Tr, Tr.In w m t ∧ w.rangeAt b (off + i * 9) t.cs := by
      intro i hi
      obtain ⟨cs', _, hc, ht⟩ := hcell i hi
      rw [cT, add_plain'] at hc
      have hk : k < m + 1 := by omega
      obtain ⟨t, hin, rfl⟩ := ih k hk cs' _ ht
      refine ⟨t, ?_, range_of_cells hc⟩
      have := Tr.In.le hin (m - k)
      rwa [show k + (m - k) = m from by omega] at this
    obtain ⟨f, hf'⟩ := Deep.choose_lt each
    refine ⟨.node kind s (some ⟨b, off, none⟩) len cap ((List.range len).map f) lo hi neg, ⟨⟨hs, i64_of_wf w0, i64_of_wf w3, i64_of_wf w4⟩, ⟨by show len = ((List.range len).map f).length; simp, hmax⟩, fun h0 => ⟨b, off, rfl, ?_, ?_⟩, ?_⟩, rfl⟩
    · have := (hf' 0 h0).2 0 _ rfl
      exact block_lt_of_cell this
    · intro j hj
      have hj' : j < len := by have : j < ((List.range len).map f).length := hj; simpa using this
      have h1 := (hf' j hj').2
      have e := map_range_at f len j hj
      show w.rangeAt b (off + j * 9) (((List.range len).map f)[j]'hj).cs
      rw [e]; exact h1
    · intro j hj
      have hj' : j < len := by have : j < ((List.range len).map f).length := hj; simpa using this
      have h1 := (hf' j hj').1
      have e := map_range_at f len j hj
      show Tr.In w m (((List.range len).map f)[j]'hj)
      rw [e]; exact h1
theorem open_tr {r : Reach} {b0 : Nat} {T S L U I B : TypeId} {v : Value} {d : DataW H} {p : List MemPlace} {f0 f1 f2 f3 f4 f5 : Field} (hT : P.underlying T = some (.struct #[f0, f1, f2, f3, f4, f5]))
    (e0 : f0.type = I ∧ f0.offset = 0) (e1 : f1.type = S ∧ f1.offset = 1) (e2 : f2.type = L ∧ f2.offset = 5) (e3 : f3.type = I ∧ f3.offset = 6) (e4 : f4.type = I ∧ f4.offset = 7) (e5 : f5.type = B ∧ f5.offset = 8)
    (hS : P.underlying S = some (.array 4 U)) (hU : P.underlying U = some (.int .u64)) (hL : P.underlying L = some (.slice T)) (hI : P.underlying I = some (.int .i64)) (hB : P.underlying B = some .bool)
    (cT : P.cellsOf T = 9) (cS : P.cellsOf S = 4) (cU : P.cellsOf U = 1) (cL : P.cellsOf L = 1) (cI : P.cellsOf I = 1) (cB : P.cellsOf B = 1)
    (hv : Value.okWide P w r b0 T v) (h : DataW.Trod enc P w base spare held T v d p) : ∃ (k : Nat) (t : Tr), Tr.In w k t ∧ v = .agg t.cs.toArray := by
  obtain ⟨cs, rfl, hsz, _⟩ : ∃ cs, v = .agg cs ∧ cs.size = P.cellsOf T ∧ Row.okWide P w r b0 T cs := by
    simpa [Value.okWide, hT] using hv
  obtain ⟨fuel, hf⟩ := h
  obtain ⟨t, hin, e⟩ := open_tr_cells hT e0 e1 e2 e3 e4 e5 hS hU hL hI hB cT cS cU cL cI cB fuel _ _ hf
  refine ⟨fuel, t, hin, ?_⟩
  rw [← e]
  simp [Value.cells]
end

end Go.Proofs.Ytcghclikkeajfaa

/- Nodes that are handed in, one or a list: as data and as cells. -/
namespace Go.Proofs.Ytcghclikkeajfaa
open Go.ChangeShapes Go.WideShapes Go.ChangeAt Go.RowKit

instance : Inhabited Nd := ⟨Nd.zero⟩
/-- What a node's fields can hold at all. -/
def NdFit (x : Nd) : Prop := I64 x.kind ∧ x.set.Ok ∧ I64 x.a ∧ I64 x.b
section
variable {H : Type} {enc : TypeId × Value → H} {P : Program} {w : World} {base : Nat} {spare : Nat → Bool} {held : Bool}
theorem open_node_cells {T S U I B : TypeId} {f0 f1 f2 f3 f4 : Field} (hT : P.underlying T = some (.struct #[f0, f1, f2, f3, f4]))
    (e0 : f0.type = I ∧ f0.offset = 0) (e1 : f1.type = S ∧ f1.offset = 1) (e2 : f2.type = I ∧ f2.offset = 5) (e3 : f3.type = I ∧ f3.offset = 6) (e4 : f4.type = B ∧ f4.offset = 7)
    (hS : P.underlying S = some (.array 4 U)) (hU : P.underlying U = some (.int .u64)) (hI : P.underlying I = some (.int .i64)) (hB : P.underlying B = some .bool)
    (cT : P.cellsOf T = 8) (cS : P.cellsOf S = 4) (cU : P.cellsOf U = 1) (cI : P.cellsOf I = 1) (cB : P.cellsOf B = 1)
    {fuel : Nat} {cs : List Value} {x : DataW H × List MemPlace} (h : DataW.trod enc P w base spare held fuel T cs = some x) : ∃ t : Nd, NdFit t ∧ cs = t.cs := by
  obtain ⟨xs, m, rfl, _, hl, hxl, hf⟩ := DataW.trod_struct hT h
  rw [cT] at hl
  obtain ⟨c0, c1, c2, c3, c4, c5, c6, c7, rfl⟩ : ∃ c0 c1 c2 c3 c4 c5 c6 c7, cs = [c0, c1, c2, c3, c4, c5, c6, c7] := by
    match cs, hl with
    | [c0, c1, c2, c3, c4, c5, c6, c7], _ => exact ⟨_, _, _, _, _, _, _, _, rfl⟩
  have hx : ∀ i, i < 5 → ∃ y, xs[i]? = some y := fun i hi => ⟨xs[i]'(by rw [hxl]; exact hi), List.getElem?_eq_getElem _⟩
  obtain ⟨y0, hy0⟩ := hx 0 (by omega)
  obtain ⟨y1, hy1⟩ := hx 1 (by omega)
  obtain ⟨y2, hy2⟩ := hx 2 (by omega)
  obtain ⟨y3, hy3⟩ := hx 3 (by omega)
  obtain ⟨y4, hy4⟩ := hx 4 (by omega)
  have t0 := hf 0 f0 rfl
  have t1 := hf 1 f1 rfl
  have t2 := hf 2 f2 rfl
  have t3 := hf 3 f3 rfl
  have t4 := hf 4 f4 rfl
  rw [e0.1, e0.2, cI, hy0] at t0
  rw [e1.1, e1.2, cS, hy1] at t1
  rw [e2.1, e2.2, cI, hy2] at t2
  rw [e3.1, e3.2, cI, hy3] at t3
  rw [e4.1, e4.2, cB, hy4] at t4
  simp only [List.drop_zero, List.drop_succ_cons, List.take_succ_cons, List.take_zero] at t0 t1 t2 t3 t4
  obtain ⟨kind, g0, _, w0⟩ := DataW.trod_int hI t0
  obtain ⟨s, hs, rfl, rfl, rfl, rfl⟩ := set_of_cells hS hU cU t1
  obtain ⟨a, g2, _, w2⟩ := DataW.trod_int hI t2
  obtain ⟨b, g3, _, w3⟩ := DataW.trod_int hI t3
  obtain ⟨neg, g4, _⟩ := DataW.trod_bool hB t4
  injection g0 with g0 _
  injection g2 with g2 _
  injection g3 with g3 _
  injection g4 with g4 _
  subst g0 g2 g3 g4
  exact ⟨⟨kind, s, a, b, neg⟩, ⟨i64_of_wf w0, hs, i64_of_wf w2, i64_of_wf w3⟩, rfl⟩
theorem open_nodes {r : Reach} {b0 : Nat} {L T S U I B : TypeId} {f0 f1 f2 f3 f4 : Field} {v : Value} {d : DataW H} {p : List MemPlace} (hu : P.underlying L = some (.slice T)) (hT : P.underlying T = some (.struct #[f0, f1, f2, f3, f4]))
    (e0 : f0.type = I ∧ f0.offset = 0) (e1 : f1.type = S ∧ f1.offset = 1) (e2 : f2.type = I ∧ f2.offset = 5) (e3 : f3.type = I ∧ f3.offset = 6) (e4 : f4.type = B ∧ f4.offset = 7)
    (hS : P.underlying S = some (.array 4 U)) (hU : P.underlying U = some (.int .u64)) (hI : P.underlying I = some (.int .i64)) (hB : P.underlying B = some .bool)
    (cT : P.cellsOf T = 8) (cS : P.cellsOf S = 4) (cU : P.cellsOf U = 1) (cI : P.cellsOf I = 1) (cB : P.cellsOf B = 1)
    (hv : Value.okWide P w r b0 L v) (h : DataW.Trod enc P w base spare held L v d p) : ∃ (A : Option Addr) (n c : Nat) (l : List Nd), n = l.length ∧ NdsAt w (.slice A n c) l ∧ (∀ j, j < l.length → NdFit (ndAt l j)) ∧ n ≤ c ∧ c ≤ 9223372036854775807 ∧ v = .slice A n c := by
  obtain ⟨A, n, c, rfl⟩ := okWide_slice hu hv
  obtain ⟨fuel, hf⟩ := h
  rcases Deep.open_slice hu hf with ⟨hcs, _⟩ | ⟨x, len, cap, m, k, D, Pl, hcs, _, hlc, hm, hmm, _, hcell⟩
  · simp [Value.cells] at hcs
    obtain ⟨rfl, rfl, rfl⟩ := hcs
    exact ⟨none, 0, 0, [], rfl, ⟨none, 0, rfl, Nat.zero_le _, fun h => absurd h (Nat.lt_irrefl _)⟩, fun j hj => absurd hj (Nat.not_lt_zero _), Nat.le_refl _, Nat.zero_le _, rfl⟩
  · simp [Value.cells] at hcs
    obtain ⟨rfl, rfl, rfl⟩ := hcs
    have hnm : n ≤ m := by rw [hmm]; split <;> omega
    have hc63 : c ≤ 9223372036854775807 := by unfold maxLen at hm; omega
    obtain ⟨b, off, spot⟩ := x
    by_cases hn : n = 0
    · subst hn
      exact ⟨some ⟨b, off, spot⟩, 0, c, [], rfl, ⟨some ⟨b, off, spot⟩, c, rfl, Nat.zero_le _, fun h => absurd h (Nat.lt_irrefl _)⟩, fun j hj => absurd hj (Nat.not_lt_zero _), hlc, hc63, rfl⟩
    have hspot : spot = none := by
      obtain ⟨cs', hc, ht⟩ := hcell 0 (by omega)
      obtain ⟨t, _, rfl⟩ := open_node_cells hT e0 e1 e2 e3 e4 hS hU hI hB cT cS cU cI cB ht
      rw [cT] at hc
      unfold World.cells? at hc
      split at hc
      · have := mapM_some_get hc 0 0 (by simp)
        have h0 : w.cell? ((({ block := b, off := off, spot := spot } : Addr).add (0 * 8)).add 0) = some (.int .i64 t.kind) := this
        have := World.cell?_spot h0
        simpa [Addr.add] using this
      · cases hc
    subst hspot
    have each : ∀ i, i < n → ∃ s : Nd, NdFit s ∧ w.rangeAt b (off + i * 8) s.cs := by
      intro i hi
      obtain ⟨cs', hc, ht⟩ := hcell i (by omega)
      obtain ⟨t, hfit, rfl⟩ := open_node_cells hT e0 e1 e2 e3 e4 hS hU hI hB cT cS cU cI cB ht
      rw [cT, add_plain'] at hc
      exact ⟨t, hfit, range_of_cells hc⟩
    obtain ⟨f, hf'⟩ := Deep.choose_lt each
    have hat : ∀ j, j < n → ndAt ((List.range n).map f) j = f j := fun j hj => by rw [ndAt_lt (by simpa using hj)]; simp
    refine ⟨some ⟨b, off, none⟩, n, c, (List.range n).map f, by simp, ⟨some ⟨b, off, none⟩, c, by simp, by simp; omega, fun _ => ⟨b, off, rfl, ?_, fun j hj => ?_⟩⟩, fun j hj => ?_, hlc, hc63, rfl⟩
    · have := (hf' 0 (by omega)).2 0 (.int .i64 (f 0).kind) rfl
      exact block_lt_of_cell this
    · have hj' : j < n := by simpa using hj
      rw [hat j hj']; exact (hf' j hj').2
    · have hj' : j < n := by simpa using hj
      rw [hat j hj']; exact (hf' j hj').1
theorem open_node {r : Reach} {b0 : Nat} {T S U I B : TypeId} {f0 f1 f2 f3 f4 : Field} {v : Value} {d : DataW H} {p : List MemPlace} (hT : P.underlying T = some (.struct #[f0, f1, f2, f3, f4]))
    (e0 : f0.type = I ∧ f0.offset = 0) (e1 : f1.type = S ∧ f1.offset = 1) (e2 : f2.type = I ∧ f2.offset = 5) (e3 : f3.type = I ∧ f3.offset = 6) (e4 : f4.type = B ∧ f4.offset = 7)
    (hS : P.underlying S = some (.array 4 U)) (hU : P.underlying U = some (.int .u64)) (hI : P.underlying I = some (.int .i64)) (hB : P.underlying B = some .bool)
    (cT : P.cellsOf T = 8) (cS : P.cellsOf S = 4) (cU : P.cellsOf U = 1) (cI : P.cellsOf I = 1) (cB : P.cellsOf B = 1)
    (hv : Value.okWide P w r b0 T v) (h : DataW.Trod enc P w base spare held T v d p) : ∃ t : Nd, NdFit t ∧ v = .agg t.cs.toArray := by
  obtain ⟨cs, rfl, hsz, _⟩ : ∃ cs, v = .agg cs ∧ cs.size = P.cellsOf T ∧ Row.okWide P w r b0 T cs := by
    simpa [Value.okWide, hT] using hv
  obtain ⟨fuel, hf⟩ := h
  obtain ⟨t, hfit, ht⟩ := open_node_cells hT e0 e1 e2 e3 e4 hS hU hI hB cT cS cU cI cB hf
  refine ⟨t, hfit, ?_⟩
  simp only [Value.cells] at ht
  rw [← ht]
end

end Go.Proofs.Ytcghclikkeajfaa
