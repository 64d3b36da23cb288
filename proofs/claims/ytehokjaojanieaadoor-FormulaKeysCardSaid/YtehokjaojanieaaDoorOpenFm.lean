/- Formulas that are handed in: as data and as cells. -/
import Derived.Test.YtehokjaojanieaaDoorOpen
import Derived.Test.YtehokjaojanieaaDoorOpenSets
import Derived.Test.YtehokjaojanieaaDoorFmFew
import Derived.Deep.Slices
import Derived.OpenShut
import Derived.SizedLaws
namespace Go.Proofs.YtehokjaojanieaaDoor
open Go.ChangeShapes Go.WideShapes Go.ChangeAt Go.RowKit
set_option linter.unusedVariables false
set_option linter.unusedSimpArgs false
section
variable {H : Type} {enc : TypeId × Value → H} {P : Program} {w : World} {base : Nat} {spare : Nat → Bool} {held : Bool}
theorem weightsAll_fm {e : TypeId} : ∀ {l : List (DataW H)} {x : DataW H}, x ∈ l → ∀ k ∈ x.weights P e, k ∈ DataW.weightsAll P e l
  | [], _, h, _, _ => absurd h List.not_mem_nil
  | d :: r, x, h, k, hk => by
    simp only [DataW.weightsAll, List.mem_append]
    rcases List.mem_cons.1 h with rfl | h
    · exact Or.inl hk
    · exact Or.inr (weightsAll_fm h k hk)
theorem ints_of_cells {E I : TypeId} (hE : P.underlying E = some (.slice I)) (hI : P.underlying I = some (.int .i64)) (cI : P.cellsOf I = 1) (bI : 0 < P.bytesOf I)
    {fuel : Nat} {cs : List Value} {x : DataW H × List MemPlace} (h : DataW.trod enc P w base spare held fuel E cs = some x) (hwt : ∀ k ∈ x.1.weights P E, k ≤ reachBytes) : ∃ (u : Value) (l : List Int), cs = [u] ∧ IntsAt w u l ∧ l.length ≤ 281474976710656 := by
  rcases open_ints hE hI cI h with ⟨rfl, _⟩ | ⟨x, len, cap, zs, rfl, _, hl, hm, hz, hxe, hcell, hwz⟩
  · exact ⟨_, [], rfl, ⟨none, 0, rfl, Nat.le_refl _, by omega, (fun x hx => by cases hx), fun h0 => absurd h0 (Nat.lt_irrefl 0)⟩, Nat.zero_le _⟩
  · have hbound : (zs.take len).length ≤ 281474976710656 := by
      rw [hxe] at hwt
      have h1 := hwt (((lits .i64 (zs.take len) : List (DataW H)).length + (lits .i64 (zs.drop len) : List (DataW H)).length) * P.bytesOf I) (by simp [DataW.weights, hE])
      have h2 := reachBytes_lt
      have h3 : (lits .i64 (zs.take len) : List (DataW H)).length = (zs.take len).length := by simp [lits]
      rw [h3] at h1
      have h4 : (zs.take len).length ≤ ((zs.take len).length + (lits .i64 (zs.drop len) : List (DataW H)).length) * P.bytesOf I := Nat.le_trans (Nat.le_add_right _ _) (Nat.le_mul_of_pos_right _ bI)
      omega
    have hzn : len ≤ zs.length := by rw [hz]; split <;> omega
    have hlt : (zs.take len).length = len := by rw [List.length_take]; omega
    unfold maxLen at hm
    refine ⟨_, zs.take len, rfl, ⟨some x, cap, by rw [hlt], by rw [hlt]; exact hl, by omega, fun y hy => ?_, fun h0 => ?_⟩, hbound⟩
    · have := bounds_i64 (hwz y (List.mem_of_mem_take hy))
      exact this
    · rw [hlt] at h0
      have hc0 := hcell 0 (by omega)
      obtain ⟨b, off, spot⟩ := x
      have hspot : spot = none := by simpa [Addr.add] using World.cell?_spot hc0
      subst hspot
      refine ⟨b, off, rfl, block_lt_of_cell (a := ⟨b, off, none⟩) (by simpa [Addr.add] using hc0), fun j hj => ?_⟩
      rw [hlt] at hj
      have h2 := hcell j (by omega)
      rw [add_plain'] at h2
      rw [h2]
      congr 2
      unfold inAt
      rw [List.getElem?_take_of_lt hj, List.getD_eq_getElem?_getD]
theorem open_fm {r : Reach} {b0 : Nat} {L E I : TypeId} {v : Value} {d : DataW H} {p : List MemPlace} (hu : P.underlying L = some (.slice E)) (hE : P.underlying E = some (.slice I)) (hI : P.underlying I = some (.int .i64)) (cI : P.cellsOf I = 1) (cE : P.cellsOf E = 1) (bI : 0 < P.bytesOf I)
    (hv : Value.okWide P w r b0 L v) (h : DataW.Trod enc P w base spare held L v d p) (hwts : ∀ k ∈ d.weights P L, k ≤ reachBytes) : ∃ (A : Option Addr) (n c : Nat) (f : Fm), FmAt w (.slice A n c) f ∧ FmFit f ∧ (A = none → c = 0) ∧ v = .slice A n c := by
  obtain ⟨A, n, c, rfl⟩ := okWide_slice hu hv
  obtain ⟨fuel, hf⟩ := h
  rcases Deep.open_slice hu hf with ⟨hcs, _⟩ | ⟨x, len, cap, m, k, D, Pl, hcs, _, hlc, hm, hmm, hxe, hcell⟩
  · simp [Value.cells] at hcs
    obtain ⟨rfl, rfl, rfl⟩ := hcs
    exact ⟨none, 0, 0, [], ⟨none, 0, rfl, Nat.le_refl _, by omega, fun h => absurd h (Nat.lt_irrefl _)⟩, (fun j => by simp [paAt]), fun _ => rfl, rfl⟩
  · simp [Value.cells] at hcs
    obtain ⟨rfl, rfl, rfl⟩ := hcs
    have hnm : n ≤ m := by rw [hmm]; split <;> omega
    have hc63 : c ≤ 9223372036854775807 := by unfold maxLen at hm; omega
    obtain ⟨b, off, spot⟩ := x
    by_cases hn : n = 0
    · subst hn
      exact ⟨some ⟨b, off, spot⟩, 0, c, [], ⟨some ⟨b, off, spot⟩, c, rfl, Nat.zero_le _, hc63, fun h => absurd h (Nat.lt_irrefl _)⟩, (fun j => by simp [paAt]), (fun e => by cases e), rfl⟩
    injection hxe with hl1 hl2
    have get : ∀ i, i < n → ∃ (u : Value) (l : List Int), w.cell? ((({ block := b, off := off, spot := spot } : Addr).add i)) = some u ∧ IntsAt w u l ∧ l.length ≤ 281474976710656 := by
      intro i hi
      obtain ⟨cs', hc, ht⟩ := hcell i (by omega)
      have hmem : D i ∈ (List.range n).map D := List.mem_map_of_mem (List.mem_range.2 hi)
      have hwt : ∀ k ∈ (D i).weights P E, k ≤ reachBytes := fun k hk => hwts k (by
        rw [hl1]
        simp only [DataW.weights, hu, List.mem_cons, List.mem_append]
        exact Or.inr (Or.inl (weightsAll_fm hmem k hk)))
      obtain ⟨u, l, rfl, hl⟩ := ints_of_cells hE hI cI bI ht hwt
      rw [cE, Nat.mul_one] at hc
      unfold World.cells? at hc
      split at hc
      · have := mapM_some_get hc 0 0 (by simp)
        have h0 : w.cell? ((({ block := b, off := off, spot := spot } : Addr).add i).add 0) = some u := this
        exact ⟨u, l, by simpa [Addr.add] using h0, hl⟩
      · cases hc
    have hspot : spot = none := by
      obtain ⟨u, _, hc, _⟩ := get 0 (by omega)
      have := World.cell?_spot hc
      simpa [Addr.add] using this
    subst hspot
    have each : ∀ i, i < n → ∃ s : Value × List Int, w.cell? ⟨b, off + i, none⟩ = some s.1 ∧ IntsAt w s.1 s.2 ∧ s.2.length ≤ 281474976710656 := by
      intro i hi
      obtain ⟨u, l, hc, hl⟩ := get i hi
      rw [add_plain'] at hc
      exact ⟨(u, l), hc, hl⟩
    obtain ⟨f, hf'⟩ := Deep.choose_lt each
    have hat : ∀ j, j < n → paAt ((List.range n).map (fun j => (f j).2)) j = (f j).2 := fun j hj => by rw [paAt_lt (by simpa using hj)]; simp
    refine ⟨some ⟨b, off, none⟩, n, c, (List.range n).map (fun j => (f j).2), ⟨some ⟨b, off, none⟩, c, by simp, by simpa using hlc, hc63, fun _ => ⟨b, off, rfl, block_lt_of_cell (hf' 0 (by omega)).1, fun j hj => ?_⟩⟩, (fun j => ?_), (fun e => by cases e), rfl⟩
    · have hj' : j < n := by simpa using hj
      exact ⟨(f j).1, (hf' j hj').1, by rw [hat j hj']; exact (hf' j hj').2.1⟩
    · by_cases hj' : j < n
      · rw [hat j hj']; exact (hf' j hj').2.2
      · rw [show paAt ((List.range n).map (fun j => (f j).2)) j = [] by unfold paAt; rw [List.getElem?_eq_none (by simpa using hj')]; rfl]; exact Nat.zero_le _
end

end Go.Proofs.YtehokjaojanieaaDoor
