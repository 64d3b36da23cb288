/- A set that is handed in by value, as data and as four words. -/
import Derived.Test.YtdcmalfjciekoaaProg
import Derived.Test.YtdcmalfjciekoaaWords
import Derived.ProofKit
import Derived.OpenShut
import Derived.Laws.IdiomArrays
namespace Go.Proofs.Ytdcmalfjciekoaa
open Go.ChangeShapes Go.WideShapes Go.ChangeAt Go.RowKit

theorem own : ownKnob Try.prog.godebug = none := by kernel_rfl
theorem laidOut : laidOutB Try.prog = true := by kernel_rfl
theorem list_of_four {α : Type} (l : List α) (h : (⟨l⟩ : Array α).size = 4) : ∃ a b c d, l = [a, b, c, d] := by
  match l, h with
  | [a, b, c, d], _ => exact ⟨a, b, c, d, rfl⟩
theorem u64_of_wf {n : Int} (h : (Lit.int .u64 n).wf = true) : ∃ k : Nat, n = (k : Int) ∧ U64 k := by
  obtain ⟨h1, h2⟩ := bounds_u64 h
  refine ⟨n.toNat, by omega, ?_⟩
  unfold U64
  omega
section
variable {H : Type} {enc : TypeId × Value → H} {P : Program} {w : World} {base : Nat} {spare : Nat → Bool} {held : Bool}
theorem open_set {r : Reach} {b0 : Nat} {T E : TypeId} {v : Value} {d : DataW H} {p : List MemPlace} (hu : P.underlying T = some (.array 4 E)) (hE : P.underlying E = some (.int .u64)) (hcT : P.cellsOf T = 4) (hcE : P.cellsOf E = 1)
    (hv : Value.okWide P w r b0 T v) (h : DataW.Trod enc P w base spare held T v d p) : ∃ s : St, s.Ok ∧ v = .agg #[.int .u64 s.w0, .int .u64 s.w1, .int .u64 s.w2, .int .u64 s.w3] := by
  obtain ⟨cs, rfl, hsz, _⟩ : ∃ cs, v = .agg cs ∧ cs.size = P.cellsOf T ∧ Row.okWide P w r b0 T cs := by
    simpa [Value.okWide, hu] using hv
  rw [hcT] at hsz
  obtain ⟨l⟩ := cs
  obtain ⟨c0, c1, c2, c3, rfl⟩ := list_of_four l hsz
  obtain ⟨fuel, hf⟩ := h
  obtain ⟨y0, y1, y2, y3, m, _, hy0, hy1, hy2, hy3⟩ := trod_array4 hu hcE hf
  obtain ⟨x0, e0, _, w0⟩ := DataW.trod_int hE hy0
  obtain ⟨x1, e1, _, w1⟩ := DataW.trod_int hE hy1
  obtain ⟨x2, e2, _, w2⟩ := DataW.trod_int hE hy2
  obtain ⟨x3, e3, _, w3⟩ := DataW.trod_int hE hy3
  simp at e0 e1 e2 e3
  subst e0 e1 e2 e3
  obtain ⟨k0, rfl, u0⟩ := u64_of_wf w0
  obtain ⟨k1, rfl, u1⟩ := u64_of_wf w1
  obtain ⟨k2, rfl, u2⟩ := u64_of_wf w2
  obtain ⟨k3, rfl, u3⟩ := u64_of_wf w3
  exact ⟨⟨k0, k1, k2, k3⟩, ⟨u0, u1, u2, u3⟩, rfl⟩
theorem trod_below {t : TypeId} {v : Value} {d : DataW H} {p : List MemPlace} (h : DataW.Trod enc P w base spare held t v d p) : ∀ x ∈ p, x.block < w.heap.size := by
  obtain ⟨m, hm⟩ := h; exact DataW.trod_lt m _ _ _ hm
end

end Go.Proofs.Ytdcmalfjciekoaa
