/- Joined: OpenSols. -/
import Derived.Test.YtjkcbojlopdonaaOpenSol
import Derived.Test.YtjkcbojlopdonaaRefLooks
/- A list of patterns that comes in. -/
namespace Go.Proofs.Ytjkcbojlopdonaa
open Go.ChangeShapes Go.WideShapes Go.ChangeAt Go.RowKit
set_option linter.unusedSimpArgs false
set_option linter.unusedVariables false

section
variable {H : Type} {enc : TypeId × Value → H} {P : Program} {w : World} {base : Nat} {spare : Nat → Bool} {held : Bool}
theorem open_sols {r : Reach} {b0 : Nat} {T S L U I B : TypeId} {v : Value} {d : DataW H} {p : List MemPlace} {f0 f1 f2 f3 f4 f5 : Field} (hT : P.underlying T = some (.struct #[f0, f1, f2, f3, f4, f5]))
    (e0 : f0.type = I ∧ f0.offset = 0) (e1 : f1.type = S ∧ f1.offset = 1) (e2 : f2.type = L ∧ f2.offset = 5) (e3 : f3.type = I ∧ f3.offset = 6) (e4 : f4.type = I ∧ f4.offset = 7) (e5 : f5.type = B ∧ f5.offset = 8)
    (hS : P.underlying S = some (.array 4 U)) (hU : P.underlying U = some (.int .u64)) (hL : P.underlying L = some (.slice T)) (hI : P.underlying I = some (.int .i64)) (hB : P.underlying B = some .bool)
    (cT : P.cellsOf T = 9) (cS : P.cellsOf S = 4) (cU : P.cellsOf U = 1) (cL : P.cellsOf L = 1) (cI : P.cellsOf I = 1) (cB : P.cellsOf B = 1)
    (hv : Value.okWide P w r b0 L v) (h : DataW.Trod enc P w base spare held L v d p) (hz : ∀ q ∈ p, MemPlace.frozenIn w q = false) :
    ∃ (K : Nat) (l : List Tr), Pats w K v l ∧ (∀ t ∈ l, Tr.Ins w K t) ∧ l.length ≤ 9223372036854775807 := by
  obtain ⟨A, n, c, rfl⟩ := okWide_slice hL hv
  obtain ⟨fuel, hf⟩ := h
  have hf' : DataW.trod enc P w base spare held fuel L [.slice A n c] = some (d, p) := hf
  obtain ⟨m, rfl⟩ : ∃ m, fuel = m + 1 := by
    cases fuel with
    | zero => cases hf'
    | succ m => exact ⟨m, rfl⟩
  rcases DataW.trod_slice hL hf' with ⟨hcs, _⟩ | ⟨a, len, cap, elems, rest, k, hmk, hcs, hye, _, hlc, hcm, hlen, hel, _, _⟩
  · injection hcs with hcs _
    injection hcs with q1 q2 q3
    subst q1 q2 q3
    exact ⟨0, [], Pats.nil w 0, fun t ht => absurd ht List.not_mem_nil, by simp⟩
  · injection hcs with hcs _
    injection hcs with q1 q2 q3
    subst q1 q2 q3
    have hmax : n ≤ 9223372036854775807 := by unfold maxLen at hcm; omega
    by_cases hn : n = 0
    · subst hn
      exact ⟨0, [], ⟨some a, c, rfl, fun h => absurd h (Nat.lt_irrefl 0), fun t ht => absurd ht List.not_mem_nil⟩, fun t ht => absurd ht List.not_mem_nil, by simp⟩
    have hcell : ∀ i, i < n → ∃ cs' y, y ∈ elems ∧ w.cells? base (a.add (i * P.cellsOf T)) (P.cellsOf T) = some cs' ∧ DataW.trod enc P w base spare held k T cs' = some y := by
      intro i hi
      have h := hel i hi
      rw [List.getElem?_eq_getElem (by omega), Option.bind_eq_some_iff] at h
      obtain ⟨cs', h1, h2⟩ := h
      exact ⟨cs', _, List.getElem_mem (by omega), h1, h2⟩
    obtain ⟨b, off, spot⟩ := a
    have hspot : spot = none := by
      obtain ⟨cs', _, _, hc, _⟩ := hcell 0 (by omega)
      rw [cT] at hc
      unfold World.cells? at hc
      split at hc
      · have := mapM_some_get hc 0 0 (by simp)
        cases hq : w.cell? ((({ block := b, off := off, spot := spot } : Addr).add (0 * 9)).add 0) with
        | none =>
          have hl9 : cs'.length = 9 := by simpa using mapM_some_length hc
          rw [hq, List.getElem?_eq_getElem (by omega)] at this
          cases this
        | some v =>
          have := World.cell?_spot hq
          simpa [Addr.add] using this
      · cases hc
    subst hspot
    have each : ∀ i, i < n → ∃ t : Tr, Tr.Ins w k t ∧ w.rangeAt b (off + i * 9) t.cs := by
      intro i hi
      obtain ⟨cs', y, hy, hc, ht⟩ := hcell i hi
      rw [cT, add_plain'] at hc
      obtain ⟨t, hin, rfl⟩ := open_sol_cells hT e0 e1 e2 e3 e4 e5 hS hU hL hI hB cT cS cU cL cI cB k cs' _ ht (fun q hq => hz q (by
        have hye' := congrArg Prod.snd hye
        have hye' : p = _ := hye'
        rw [hye']; exact List.mem_append_right _ (List.mem_flatMap.2 ⟨y, List.mem_append_left _ hy, hq⟩)))
      exact ⟨t, hin, range_of_cells hc⟩
    obtain ⟨f, hf'⟩ := Deep.choose_lt each
    refine ⟨k, (List.range n).map f, ⟨some ⟨b, off, none⟩, c, by simp, fun _ => ⟨b, off, rfl, block_lt_of_cell ((hf' 0 (by omega)).2 0 _ rfl), fun j hj => ?_⟩, fun t ht => ?_⟩, fun t ht => ?_, by simp; omega⟩
    · have hj' : j < n := by simpa using hj
      have e := map_range_at f n j hj
      rw [e]
      exact (hf' j hj').2
    · rw [List.mem_map] at ht
      obtain ⟨j, hj, rfl⟩ := ht
      exact (hf' j (List.mem_range.1 hj)).1.1
    · rw [List.mem_map] at ht
      obtain ⟨j, hj, rfl⟩ := ht
      exact (hf' j (List.mem_range.1 hj)).1
end

end Go.Proofs.Ytjkcbojlopdonaa
