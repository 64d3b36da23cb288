/- Lists of sets in a row of the call's own, appended to. -/
import Derived.Test.YtoicbahkoejhjaaProg
import Derived.Test.YtoicbahkoejhjaaWords
import Derived.Test.YtoicbahkoejhjaaCl
import Derived.Test.YtoicbahkoejhjaaOwn
import Derived.Deep.AppendLies
import Derived.Laws.OwnMore
namespace Go.Proofs.Ytoicbahkoejhjaa
open Go.RowKit
set_option linter.unusedVariables false

/-- The words of a list of sets, one behind the other. -/
def quads (l : List St) : List Value := (List.range (l.length * 4)).map (fun j => .int .u64 (((l[j / 4]?).getD ⟨0, 0, 0, 0⟩).word (j % 4) : Nat))
def quad (s : St) : List Value := [.int .u64 s.w0, .int .u64 s.w1, .int .u64 s.w2, .int .u64 s.w3]
theorem quads_length (l : List St) : (quads l).length = l.length * 4 := by simp [quads]
theorem quads_get (l : List St) (j : Nat) (h : j < l.length * 4) : (quads l)[j]? = some (.int .u64 (((l[j / 4]?).getD ⟨0, 0, 0, 0⟩).word (j % 4) : Nat)) := by simp [quads, h]
theorem quads_at (l : List St) (k i : Nat) (h : k < l.length) (hi : i < 4) : (quads l)[k * 4 + i]? = some (.int .u64 (l[k].word i : Nat)) := by
  rw [quads_get _ _ (by omega), show (k * 4 + i) / 4 = k from by omega, show (k * 4 + i) % 4 = i from by omega, List.getElem?_eq_getElem h]; rfl
theorem quads_snoc (l : List St) (s : St) : quads l ++ quad s = quads (l ++ [s]) := by
  apply List.ext_getElem?
  intro j
  by_cases h : j < l.length * 4
  · rw [List.getElem?_append_left (by rw [quads_length]; exact h), quads_get _ _ h, quads_get _ _ (by rw [List.length_append]; omega), List.getElem?_append_left (by omega)]
  · rw [List.getElem?_append_right (by rw [quads_length]; omega), quads_length]
    by_cases h2 : j < l.length * 4 + 4
    · rw [quads_get _ _ (by rw [List.length_append]; simp; omega), List.getElem?_append_right (by omega)]
      obtain ⟨i, rfl, hi⟩ : ∃ i, j = l.length * 4 + i ∧ i < 4 := ⟨j - l.length * 4, by omega, by omega⟩
      rw [show l.length * 4 + i - l.length * 4 = i from by omega, show (l.length * 4 + i) / 4 - l.length = 0 from by omega, show (l.length * 4 + i) % 4 = i from by omega]
      have : i = 0 ∨ i = 1 ∨ i = 2 ∨ i = 3 := by omega
      rcases this with rfl | rfl | rfl | rfl <;> rfl
    · rw [List.getElem?_eq_none (by simp [quad]; omega), List.getElem?_eq_none (by rw [quads_length, List.length_append]; simp; omega)]
theorem quads_one (l : List St) : ∀ u ∈ quads l, u.oneCell' = true := by
  intro u hu
  simp [quads] at hu
  obtain ⟨j, _, rfl⟩ := hu
  rfl
/-- A list of sets in a row of the call's own. -/
def SetsRow (w : World) (base : Nat) (v : Value) (l : List St) : Prop := w.ownsRow base 32 4 v l.length (quads l)
theorem SetsRow.grown {w w' : World} {base : Nat} {v : Value} {l : List St} {row : Option Nat} (h : SetsRow w base v l) (hg : w.grownBy w' row) (hr : v.ownBlock = none ∨ v.ownBlock ≠ row) : SetsRow w' base v l := World.ownsRow.kept h hg hr
theorem SetsRow.next {w w' : World} {base : Nat} {v : Value} {l : List St} (h : SetsRow w base v l) (hb : Below w.heap.size w w') : SetsRow w' base v l :=
  h.grown (below_grown hb none) (by cases hv : v.ownBlock <;> simp)
theorem SetsRow.sets {w : World} {base g n cap : Nat} {l : List St} (h : SetsRow w base (.slice (some ⟨g, 0, none⟩) n cap) l) (hn : n = l.length) (hm : n ≤ 9223372036854775807) (hok : ∀ (k : Nat) (h : k < l.length), l[k].Ok) (hlt : g < w.heap.size) : IsSets w (some ⟨g, 0, none⟩) n l := by
  subst hn
  refine ⟨rfl, hm, hok, fun _ => ⟨g, 0, rfl, hlt, fun k hk => ?_⟩⟩
  have hc : ∀ i, i < 4 → w.cell? ⟨g, k * 4 + i, none⟩ = some (.int .u64 (l[k].word i : Nat)) := fun i hi => by
    rw [World.ownsRow.cellAt h (k * 4 + i) (by omega), quads_at l k i hk hi]
  simp only [Nat.zero_add]
  exact ⟨hc 0 (by omega), hc 1 (by omega), hc 2 (by omega), hc 3 (by omega)⟩

theorem info_set : (Try.prog.info? 32).map (fun i => (i.zero, i.size, i.bytes)) = some (some (.agg #[.int .u64 0, .int .u64 0, .int .u64 0, .int .u64 0]), 4, 32) := by kernel_rfl
theorem SetsRow.isSets {w : World} {base : Nat} {v : Value} {l : List St} (h : SetsRow w base v l) (hm : l.length ≤ 1000000) (hok : ∀ (k : Nat) (h : k < l.length), l[k].Ok) : ∃ A c, v = .slice A l.length c ∧ IsSets w A l.length l := by
  by_cases h0 : 0 < l.length
  · obtain ⟨g, cap, rfl, _, hlt⟩ := World.ownsRow.form h h0
    exact ⟨_, cap, rfl, h.sets rfl (by omega) hok hlt⟩
  · rcases h.2 with ⟨e, _⟩ | ⟨g, cap, cur, e, _⟩
    · exact ⟨none, 0, by rw [e, show l.length = 0 by omega], rfl, by omega, hok, fun q => absurd q h0⟩
    · exact ⟨_, cap, e, rfl, by omega, hok, fun q => absurd q h0⟩
theorem SetsRow.push {w : World} {base : Nat} {v : Value} {l : List St} {s : St} (h : w.ownsRow base 32 4 v (l.length + 1) (quads l ++ quad s)) : SetsRow w base v (l ++ [s]) := by
  unfold SetsRow
  rw [List.length_append, ← quads_snoc]
  exact h
theorem SetsRow.nil (w : World) (base : Nat) : SetsRow w base (.slice none 0 0) [] := World.ownsRow_nil w base _ 4
theorem SetsRow.alloc {w : World} {base : Nat} {v : Value} {l : List St} (h : SetsRow w base v l) (o : Obj) : SetsRow (w.alloc o) base v l := World.ownsRow.alloc h o
theorem SetsRow.low {w : World} {base : Nat} {v : Value} {l : List St} (h : SetsRow w base v l) : ∀ g, v.ownBlock = some g → base ≤ g := fun g hg => (World.ownsRow.lt h g hg).1

end Go.Proofs.Ytoicbahkoejhjaa
