/- A set that is handed in by value, as data and as four words. -/
import Derived.Test.YtehokjaojanieaaDoorProg
import Derived.Test.YtehokjaojanieaaDoorWords
import Derived.ProofKit
import Derived.OpenShut
import Derived.Laws.IdiomArrays
namespace Go.Proofs.YtehokjaojanieaaDoor
open Go.ChangeShapes Go.WideShapes Go.ChangeAt Go.RowKit

theorem own : ownKnob Tryd.prog.godebug = none := by kernel_rfl
theorem laidOut : laidOutB Tryd.prog = true := by kernel_rfl
theorem list_of_four {α : Type} (l : List α) (h : (⟨l⟩ : Array α).size = 4) : ∃ a b c d, l = [a, b, c, d] := by
  match l, h with
  | [a, b, c, d], _ => exact ⟨a, b, c, d, rfl⟩
theorem u64_of_wf {n : Int} (h : (Lit.int .u64 n).wf = true) : ∃ k : Nat, n = (k : Int) ∧ U64 k := by
  obtain ⟨h1, h2⟩ := bounds_u64 h
  refine ⟨n.toNat, by omega, ?_⟩
  unfold U64
  omega
section
variable {H : Type} {enc : TypeId × Value → H} {P : Program} {w : World} {base : Nat} {spare : Nat → Bool} {held : Bool}
theorem open_set {r : Reach} {b0 : Nat} {T E : TypeId} {v : Value} {d : DataW H} {p : List MemPlace} (hu : P.underlying T = some (.array 4 E)) (hE : P.underlying E = some (.int .u64)) (hcT : P.cellsOf T = 4) (hcE : P.cellsOf E = 1)
    (hv : Value.okWide P w r b0 T v) (h : DataW.Trod enc P w base spare held T v d p) : ∃ s : St, s.Ok ∧ v = .agg #[.int .u64 s.w0, .int .u64 s.w1, .int .u64 s.w2, .int .u64 s.w3] := by
  obtain ⟨cs, rfl, hsz, _⟩ : ∃ cs, v = .agg cs ∧ cs.size = P.cellsOf T ∧ Row.okWide P w r b0 T cs := by
    simpa [Value.okWide, hu] using hv
  rw [hcT] at hsz
  obtain ⟨l⟩ := cs
  obtain ⟨c0, c1, c2, c3, rfl⟩ := list_of_four l hsz
  obtain ⟨fuel, hf⟩ := h
  obtain ⟨y0, y1, y2, y3, m, _, hy0, hy1, hy2, hy3⟩ := trod_array4 hu hcE hf
  obtain ⟨x0, e0, _, w0⟩ := DataW.trod_int hE hy0
  obtain ⟨x1, e1, _, w1⟩ := DataW.trod_int hE hy1
  obtain ⟨x2, e2, _, w2⟩ := DataW.trod_int hE hy2
  obtain ⟨x3, e3, _, w3⟩ := DataW.trod_int hE hy3
  simp at e0 e1 e2 e3
  subst e0 e1 e2 e3
  obtain ⟨k0, rfl, u0⟩ := u64_of_wf w0
  obtain ⟨k1, rfl, u1⟩ := u64_of_wf w1
  obtain ⟨k2, rfl, u2⟩ := u64_of_wf w2
  obtain ⟨k3, rfl, u3⟩ := u64_of_wf w3
  exact ⟨⟨k0, k1, k2, k3⟩, ⟨u0, u1, u2, u3⟩, rfl⟩
theorem open_byte {r : Reach} {b0 : Nat} {T : TypeId} {v : Value} {d : DataW H} {p : List MemPlace} (hu : P.underlying T = some (.int .u8)) (hv : Value.okWide P w r b0 T v) (h : DataW.Trod enc P w base spare held T v d p) :
    ∃ b : Nat, b < 256 ∧ v = .int .u8 b := by
  obtain ⟨x, rfl, _, _, wx⟩ := open_int hu hv h
  obtain ⟨h1, h2⟩ := bounds_u8 wx
  refine ⟨x.toNat, by omega, ?_⟩
  rw [Int.toNat_of_nonneg h1]
theorem open_bytes {r : Reach} {b0 : Nat} {T E : TypeId} {v : Value} {d : DataW H} {p : List MemPlace} (hu : P.underlying T = some (.slice E)) (hE : P.underlying E = some (.int .u8)) (hcE : P.cellsOf E = 1)
    (hv : Value.okWide P w r b0 T v) (h : DataW.Trod enc P w base spare held T v d p) : ∃ (A : Option Addr) (n c : Nat) (l : List Nat), IsBytes w A n l ∧ v = .slice A n c := by
  obtain ⟨A, n, c, rfl⟩ := okWide_slice hu hv
  obtain ⟨fuel, hf⟩ := h
  rcases open_ints hu hE hcE hf with ⟨hcs, _⟩ | ⟨x, len, cap, zs, hcs, _, hl, hm, hz, _, hcell, hwz⟩
  · simp [Value.cells] at hcs
    obtain ⟨rfl, rfl, rfl⟩ := hcs
    exact ⟨none, 0, 0, [], ⟨rfl, by omega, fun k hk => by simp at hk, fun h0 => by omega⟩, rfl⟩
  · simp [Value.cells] at hcs
    obtain ⟨rfl, rfl, rfl⟩ := hcs
    have hzn : n ≤ zs.length := by rw [hz]; split <;> omega
    have hb : ∀ k, k < zs.length → 0 ≤ zs.getD k 0 ∧ zs.getD k 0 ≤ 255 := by
      intro k hk
      refine bounds_u8 (hwz _ ?_)
      rw [List.getD_eq_getElem?_getD, List.getElem?_eq_getElem hk]
      exact List.getElem_mem _
    refine ⟨some x, n, c, (zs.take n).map Int.toNat, ⟨?_, ?_, ?_, ?_⟩, rfl⟩
    · simp; omega
    · unfold maxLen at hm; omega
    · intro k hk
      simp at hk
      have h1 := hb k (by omega)
      rw [List.getD_eq_getElem?_getD, List.getElem?_eq_getElem (by omega)] at h1
      simp at h1 ⊢
      omega
    · intro h0
      have hc0 := hcell 0 (by omega)
      obtain ⟨b, off, spot⟩ := x
      have hspot : spot = none := by simpa [Addr.add] using World.cell?_spot hc0
      subst hspot
      refine ⟨b, off, rfl, ?_, ?_⟩
      · exact block_lt_of_cell (a := ⟨b, off, none⟩) (by simpa [Addr.add] using hc0)
      · intro k hk
        simp at hk
        have h1 := hb k (by omega)
        have h2 := hcell k (by omega)
        rw [List.getD_eq_getElem?_getD, List.getElem?_eq_getElem (by omega)] at h1 h2
        have hadd : (⟨b, off, none⟩ : Addr).add k = ⟨b, off + k, none⟩ := by unfold Addr.add; split <;> simp_all
        rw [hadd] at h2
        simp at h1 h2 ⊢
        rw [h2]
        congr 2
        omega
theorem trod_below {t : TypeId} {v : Value} {d : DataW H} {p : List MemPlace} (h : DataW.Trod enc P w base spare held t v d p) : ∀ x ∈ p, x.block < w.heap.size := by
  obtain ⟨m, hm⟩ := h; exact DataW.trod_lt m _ _ _ hm
end

end Go.Proofs.YtehokjaojanieaaDoor
