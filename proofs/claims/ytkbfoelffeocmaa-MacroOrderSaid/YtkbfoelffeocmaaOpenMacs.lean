/- A list of macros that is handed in: as data and as cells. -/
import Derived.Test.YtkbfoelffeocmaaMd
import Derived.Test.YtkbfoelffeocmaaOpenAny
import Derived.Deep.Slices
import Derived.OpenShut
import Derived.SizedLaws
namespace Go.Proofs.Ytkbfoelffeocmaa
open Go.ChangeShapes Go.WideShapes Go.ChangeAt Go.RowKit

theorem cells2 {w : World} {base : Nat} {a : Addr} {cs : List Value} (h : w.cells? base a 2 = some cs) :
    ∃ c0 c1, cs = [c0, c1] ∧ w.cell? (a.add 0) = some c0 ∧ w.cell? (a.add 1) = some c1 := by
  unfold World.cells? at h
  split at h
  · rw [show List.range 2 = [0, 1] from by decide] at h
    simp only [List.mapM_cons, List.mapM_nil, bind, Option.bind_eq_some_iff, pure, Option.some.injEq] at h
    obtain ⟨c0, h0, r0, ⟨c1, h1, r1, rfl, rfl⟩, rfl⟩ := h
    exact ⟨c0, c1, rfl, h0, h1⟩
  · cases h
theorem add_plain2 (b o j : Nat) : (⟨b, o, none⟩ : Addr).add j = ⟨b, o + j, none⟩ := by unfold Addr.add; split <;> simp_all
/-- No string is longer than a string may be. -/
def FitM (ms : List (ByteArray × ByteArray)) : Prop := ms.length ≤ 9223372036854775807 ∧ ∀ j, j < ms.length → (atM ms j).1.size ≤ 140737488355328 ∧ (atM ms j).2.size ≤ 140737488355328
section
variable {H : Type} {enc : TypeId × Value → H} {P : Program} {w : World} {base : Nat} {spare : Nat → Bool} {held : Bool}
theorem weightsAll_in {e : TypeId} : ∀ {l : List (DataW H)} {x : DataW H}, x ∈ l → ∀ k ∈ x.weights P e, k ∈ DataW.weightsAll P e l
  | [], _, h, _, _ => absurd h List.not_mem_nil
  | d :: r, x, h, k, hk => by
    simp only [DataW.weightsAll, List.mem_append]
    rcases List.mem_cons.1 h with rfl | h
    · exact Or.inl hk
    · exact Or.inr (weightsAll_in h k hk)
theorem open_macs {r : Reach} {b0 : Nat} {T E S : TypeId} {f0 f1 : Field} {v : Value} {d : DataW H} {p : List MemPlace} (hu : P.underlying T = some (.slice E)) (hE : P.underlying E = some (.struct #[f0, f1])) (e0 : f0.type = S ∧ f0.offset = 0) (e1 : f1.type = S ∧ f1.offset = 1)
    (hS : P.underlying S = some .string) (hcE : P.cellsOf E = 2) (hcS : P.cellsOf S = 1)
    (hv : Value.okWide P w r b0 T v) (h : DataW.Trod enc P w base spare held T v d p) (hwts : ∀ k ∈ d.weights P T, k ≤ reachBytes) : ∃ (A : Option Addr) (n c : Nat) (ms : List (ByteArray × ByteArray)), MacsAt w (.slice A n c) ms ∧ FitM ms ∧ n ≤ c ∧ c ≤ 9223372036854775807 ∧ v = .slice A n c := by
  obtain ⟨A, n, c, rfl⟩ := okWide_slice hu hv
  obtain ⟨fuel, hf⟩ := h
  rcases Deep.open_slice hu hf with ⟨hcs, _⟩ | ⟨x, len, cap, m, k, D, Pl, hcs, _, hlc, hm, hmm, hxe, hcell⟩
  · simp [Value.cells] at hcs
    obtain ⟨rfl, rfl, rfl⟩ := hcs
    exact ⟨none, 0, 0, [], ⟨none, 0, rfl, Nat.zero_le _, fun h => absurd h (Nat.lt_irrefl _)⟩, ⟨Nat.zero_le _, fun j hj => absurd hj (Nat.not_lt_zero _)⟩, Nat.le_refl _, Nat.zero_le _, rfl⟩
  · simp [Value.cells] at hcs
    obtain ⟨rfl, rfl, rfl⟩ := hcs
    have hnm : n ≤ m := by rw [hmm]; split <;> omega
    obtain ⟨b, off, spot⟩ := x
    injection hxe with hl1 hl2
    by_cases hn : n = 0
    · subst hn
      exact ⟨some ⟨b, off, spot⟩, 0, c, [], ⟨some ⟨b, off, spot⟩, c, rfl, Nat.zero_le _, fun h => absurd h (Nat.lt_irrefl _)⟩, ⟨Nat.zero_le _, fun j hj => absurd hj (Nat.not_lt_zero _)⟩, hlc, by unfold maxLen at hm; omega, rfl⟩
    have hspot : spot = none := by
      obtain ⟨cs', hc, _⟩ := hcell 0 (by omega)
      rw [hcE] at hc
      obtain ⟨c0, c1, rfl, h0, _⟩ := cells2 hc
      have := World.cell?_spot h0
      simpa [Addr.add] using this
    subst hspot
    have each : ∀ i, i < n → ∃ s : ByteArray × ByteArray, (w.cell? ⟨b, off + i * 2, none⟩ = some (.string s.1) ∧ w.cell? ⟨b, off + i * 2 + 1, none⟩ = some (.string s.2)) ∧ s.1.size ≤ 140737488355328 ∧ s.2.size ≤ 140737488355328 := by
      intro i hi
      obtain ⟨cs', hc, ht⟩ := hcell i (by omega)
      rw [hcE] at hc
      obtain ⟨c0, c1, rfl, h0, h1⟩ := cells2 hc
      obtain ⟨y0, y1, k', hD, _, hy0, hy1⟩ := trod_struct2 hE ht
      rw [e0.1, e0.2, hcS] at hy0
      rw [e1.1, e1.2, hcS] at hy1
      obtain ⟨s0, q0, x0, _⟩ := DataW.trod_string hS hy0
      obtain ⟨s1, q1, x1, _⟩ := DataW.trod_string hS hy1
      simp at q0 q1
      subst q0 q1
      rw [add_plain2, add_plain2] at h0 h1
      injection hD with hD1 hD2
      have hmem : D i ∈ (List.range n).map D := List.mem_map_of_mem (List.mem_range.2 hi)
      have hwt : ∀ k ∈ (D i).weights P E, k ≤ reachBytes := fun k hk => hwts k (by
        rw [hl1]
        simp only [DataW.weights, hu, List.mem_cons, List.mem_append]
        exact Or.inr (Or.inl (weightsAll_in hmem k hk)))
      rw [hD1, x0, x1] at hwt
      have hw0 := hwt s0.data.toList.length (by simp [DataW.weights, hE, DataW.weightsEach])
      have hw1 := hwt s1.data.toList.length (by simp [DataW.weights, hE, DataW.weightsEach])
      refine ⟨(s0, s1), ⟨h0, h1⟩, ?_, ?_⟩
      · show s0.size ≤ _
        have e : s0.data.toList.length = s0.size := by rw [Array.length_toList]; rfl
        have := reachBytes_lt
        rw [← e]
        omega
      · show s1.size ≤ _
        have e : s1.data.toList.length = s1.size := by rw [Array.length_toList]; rfl
        have := reachBytes_lt
        rw [← e]
        omega
    obtain ⟨f, hf'⟩ := Deep.choose_lt each
    have hat : ∀ j, j < n → atM ((List.range n).map f) j = f j := fun j hj => by rw [atM_lt (by simpa using hj)]; simp
    refine ⟨some ⟨b, off, none⟩, n, c, (List.range n).map f, ⟨some ⟨b, off, none⟩, c, by simp, by simp; unfold maxLen at hm; omega, fun _ => ?_⟩, ⟨by simp; unfold maxLen at hm; omega, fun j hj => ?_⟩, hlc, by unfold maxLen at hm; omega, rfl⟩
    · obtain ⟨⟨c0, _⟩, _⟩ := hf' 0 (by omega)
      refine ⟨b, off, rfl, block_lt_of_cell c0, fun j hj => ?_⟩
      have hj' : j < n := by simpa using hj
      rw [hat j hj']
      obtain ⟨⟨q0, q1⟩, _⟩ := hf' j hj'
      intro i u hu
      unfold macCs at hu
      match i, hu with
      | 0, hu => rw [Nat.add_zero, q0]; simpa using hu
      | 1, hu => rw [q1]; simpa using hu
    · have hj' : j < n := by simpa using hj
      rw [hat j hj']
      exact (hf' j hj').2
end

end Go.Proofs.Ytkbfoelffeocmaa
