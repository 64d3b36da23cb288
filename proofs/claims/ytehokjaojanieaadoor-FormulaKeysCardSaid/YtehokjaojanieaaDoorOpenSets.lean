/- A list of sets, and classes, that are handed in: as data and as cells. -/
import Derived.Test.YtehokjaojanieaaDoorProg
import Derived.Test.YtehokjaojanieaaDoorWords
import Derived.Test.YtehokjaojanieaaDoorCl
import Derived.Test.YtehokjaojanieaaDoorOpen
import Derived.Deep.Slices
import Derived.OpenShut
namespace Go.Proofs.YtehokjaojanieaaDoor
open Go.ChangeShapes Go.WideShapes Go.ChangeAt Go.RowKit

instance : Inhabited St := ⟨⟨0, 0, 0, 0⟩⟩
theorem cells4 {w : World} {base : Nat} {a : Addr} {cs : List Value} (h : w.cells? base a 4 = some cs) :
    ∃ c0 c1 c2 c3, cs = [c0, c1, c2, c3] ∧ w.cell? (a.add 0) = some c0 ∧ w.cell? (a.add 1) = some c1 ∧ w.cell? (a.add 2) = some c2 ∧ w.cell? (a.add 3) = some c3 := by
  unfold World.cells? at h
  split at h
  · rw [show List.range 4 = [0, 1, 2, 3] from by decide] at h
    simp only [List.mapM_cons, List.mapM_nil, bind, Option.bind_eq_some_iff, pure, Option.some.injEq] at h
    obtain ⟨c0, h0, r0, ⟨c1, h1, r1, ⟨c2, h2, r2, ⟨c3, h3, r3, rfl, rfl⟩, rfl⟩, rfl⟩, rfl⟩ := h
    exact ⟨c0, c1, c2, c3, rfl, h0, h1, h2, h3⟩
  · cases h

section
variable {H : Type} {enc : TypeId × Value → H} {P : Program} {w : World} {base : Nat} {spare : Nat → Bool} {held : Bool}
theorem set_of_cells {fuel : Nat} {T E : TypeId} {c0 c1 c2 c3 : Value} {x : DataW H × List MemPlace} (hu : P.underlying T = some (.array 4 E)) (hE : P.underlying E = some (.int .u64)) (hcE : P.cellsOf E = 1)
    (h : DataW.trod enc P w base spare held fuel T [c0, c1, c2, c3] = some x) : ∃ s : St, s.Ok ∧ c0 = .int .u64 s.w0 ∧ c1 = .int .u64 s.w1 ∧ c2 = .int .u64 s.w2 ∧ c3 = .int .u64 s.w3 := by
  obtain ⟨y0, y1, y2, y3, m, _, hy0, hy1, hy2, hy3⟩ := trod_array4 hu hcE h
  obtain ⟨x0, e0, _, w0⟩ := DataW.trod_int hE hy0
  obtain ⟨x1, e1, _, w1⟩ := DataW.trod_int hE hy1
  obtain ⟨x2, e2, _, w2⟩ := DataW.trod_int hE hy2
  obtain ⟨x3, e3, _, w3⟩ := DataW.trod_int hE hy3
  simp at e0 e1 e2 e3
  subst e0 e1 e2 e3
  obtain ⟨k0, rfl, u0⟩ := u64_of_wf w0
  obtain ⟨k1, rfl, u1⟩ := u64_of_wf w1
  obtain ⟨k2, rfl, u2⟩ := u64_of_wf w2
  obtain ⟨k3, rfl, u3⟩ := u64_of_wf w3
  exact ⟨⟨k0, k1, k2, k3⟩, ⟨u0, u1, u2, u3⟩, rfl, rfl, rfl, rfl⟩
theorem add_plain' (b o j : Nat) : (⟨b, o, none⟩ : Addr).add j = ⟨b, o + j, none⟩ := by unfold Addr.add; split <;> simp_all
theorem open_sets {r : Reach} {b0 : Nat} {T E U : TypeId} {v : Value} {d : DataW H} {p : List MemPlace} (hu : P.underlying T = some (.slice E)) (hE : P.underlying E = some (.array 4 U)) (hU : P.underlying U = some (.int .u64)) (hcE : P.cellsOf E = 4) (hcU : P.cellsOf U = 1)
    (hv : Value.okWide P w r b0 T v) (h : DataW.Trod enc P w base spare held T v d p) : ∃ (A : Option Addr) (n c : Nat) (l : List St), IsSets w A n l ∧ v = .slice A n c := by
  obtain ⟨A, n, c, rfl⟩ := okWide_slice hu hv
  obtain ⟨fuel, hf⟩ := h
  rcases Deep.open_slice hu hf with ⟨hcs, _⟩ | ⟨x, len, cap, m, k, D, Pl, hcs, _, hl, hm, hmm, _, hcell⟩
  · simp [Value.cells] at hcs
    obtain ⟨rfl, rfl, rfl⟩ := hcs
    exact ⟨none, 0, 0, [], IsSets.nil _ _, rfl⟩
  · simp [Value.cells] at hcs
    obtain ⟨rfl, rfl, rfl⟩ := hcs
    have hnm : n ≤ m := by rw [hmm]; split <;> omega
    obtain ⟨b, off, spot⟩ := x
    by_cases hn : n = 0
    · subst hn
      exact ⟨some ⟨b, off, spot⟩, 0, c, [], IsSets.nil _ _, rfl⟩
    have hspot : spot = none := by
      obtain ⟨cs', hc, _⟩ := hcell 0 (by omega)
      rw [hcE] at hc
      obtain ⟨c0, c1, c2, c3, rfl, h0, _⟩ := cells4 hc
      have := World.cell?_spot h0
      simpa [Addr.add] using this
    subst hspot
    have each : ∀ i, i < n → ∃ s : St, s.Ok ∧ (w.cell? ⟨b, off + i * 4, none⟩ = some (.int .u64 s.w0) ∧ w.cell? ⟨b, off + i * 4 + 1, none⟩ = some (.int .u64 s.w1) ∧ w.cell? ⟨b, off + i * 4 + 2, none⟩ = some (.int .u64 s.w2) ∧ w.cell? ⟨b, off + i * 4 + 3, none⟩ = some (.int .u64 s.w3)) := by
      intro i hi
      obtain ⟨cs', hc, ht⟩ := hcell i (by omega)
      rw [hcE] at hc
      obtain ⟨c0, c1, c2, c3, rfl, h0, h1, h2, h3⟩ := cells4 hc
      obtain ⟨s, hs, rfl, rfl, rfl, rfl⟩ := set_of_cells hE hU hcU ht
      rw [add_plain', add_plain'] at h0 h1 h2 h3
      exact ⟨s, hs, h0, h1, h2, h3⟩
    obtain ⟨f, hf'⟩ := Deep.choose_lt each
    refine ⟨some ⟨b, off, none⟩, n, c, (List.range n).map f, ⟨by simp, by unfold maxLen at hm; omega, ?_, ?_⟩, rfl⟩
    · intro i hi
      simp at hi
      simpa using (hf' i hi).1
    · intro h0
      obtain ⟨_, c0, _⟩ := hf' 0 h0
      refine ⟨b, off, rfl, block_lt_of_cell c0, ?_⟩
      intro i hi
      simp at hi
      obtain ⟨_, hh⟩ := hf' i hi
      simpa using hh
theorem open_cl {r : Reach} {b0 : Nat} {T R B I : TypeId} {f0 f1 : Field} {v : Value} {d : DataW H} {p : List MemPlace} (hu : P.underlying T = some (.struct #[f0, f1])) (e0 : f0.type = R ∧ f0.offset = 0) (e1 : f1.type = I ∧ f1.offset = 256)
    (hR : P.underlying R = some (.array 256 B)) (hB : P.underlying B = some (.int .u8)) (hI : P.underlying I = some (.int .i64)) (hcT : P.cellsOf T = 257) (hcR : P.cellsOf R = 256) (hcB : P.cellsOf B = 1) (hcI : P.cellsOf I = 1)
    (hv : Value.okWide P w r b0 T v) (h : DataW.Trod enc P w base spare held T v d p) : ∃ c : Cl, c.Ok ∧ v = .agg c.cells := by
  obtain ⟨cs, rfl, hsz, _⟩ : ∃ cs, v = .agg cs ∧ cs.size = P.cellsOf T ∧ Row.okWide P w r b0 T cs := by
    simpa [Value.okWide, hu] using hv
  rw [hcT] at hsz
  obtain ⟨fuel, hf⟩ := h
  obtain ⟨y0, y1, m, _, _, h0, h1⟩ := trod_struct2 hu hf
  rw [e0.1, e0.2, hcR] at h0
  rw [e1.1, e1.2, hcI] at h1
  simp only [Value.cells] at h0 h1
  obtain ⟨N, eN, _, _⟩ := DataW.trod_int hI h1
  obtain ⟨xs, m', _, _, _, hx, hel⟩ := DataW.trod_array hR h0
  have each : ∀ i, i < 256 → ∃ x : Nat, x < 256 ∧ cs[i]? = some (.int .u8 (x : Nat)) := by
    intro i hi
    have hi' := hel i hi
    rw [hcB, List.getElem?_eq_getElem (by omega), Nat.mul_one] at hi'
    obtain ⟨z, ez, _, wz⟩ := DataW.trod_int hB hi'
    obtain ⟨z1, z2⟩ := bounds_u8 wz
    refine ⟨z.toNat, by omega, ?_⟩
    rw [Int.toNat_of_nonneg z1]
    have hg : (((List.drop 0 cs.toList).take 256).drop i)[0]? = some (.int .u8 z) := by
      have := congrArg (fun l : List Value => l[0]?) ez
      simpa using this
    simpa [hi] using hg
  obtain ⟨f, hf'⟩ := Deep.choose_lt each
  refine ⟨⟨f, N⟩, fun k hk => (hf' k hk).1, ?_⟩
  congr 1
  apply Array.ext_getElem?
  intro i
  by_cases hi : i < 256
  · rw [Cl.get _ i hi, (hf' i hi).2]
  · by_cases h2 : i = 256
    · subst h2
      rw [Cl.getN]
      have := congrArg (fun l : List Value => l[0]?) eN
      simpa using this
    · rw [Array.getElem?_eq_none (by omega), Array.getElem?_eq_none (by rw [Cl.size]; omega)]
end

end Go.Proofs.YtehokjaojanieaaDoor
