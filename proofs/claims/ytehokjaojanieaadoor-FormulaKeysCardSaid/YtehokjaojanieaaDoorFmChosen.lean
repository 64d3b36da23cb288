/- Rows of numbers of the call's own; bolterref09.chosen. -/
import Derived.Test.YtehokjaojanieaaDoorFm
import Derived.Laws.OwnMore
import Derived.Deep.AppendLies
import Derived.Deep.OwnRows
import Derived.Lib.RabinKarpLaws
namespace Go.Proofs.YtehokjaojanieaaDoor
open Go.RowKit
set_option linter.unusedVariables false
set_option linter.unusedSimpArgs false

theorem info_intZ : (Tryd.prog.info? 3).map (fun i => (i.zero, i.size, i.bytes)) = some (some (.int .i64 0), 1, 8) := by kernel_rfl
/-- Numbers in a row of the call's own, appended to. -/
def ZRow (w : World) (base : Nat) (v : Value) (l : List Int) : Prop := w.ownsRow base 3 1 v l.length (l.map (Value.int .i64))
section
variable {w w' : World} {base : Nat} {v : Value} {l : List Int}
theorem ZRow.nil (w : World) (base : Nat) : ZRow w base (.slice none 0 0) [] := World.ownsRow_nil w base _ 1
theorem ZRow.next (h : ZRow w base v l) (hb : Below w.heap.size w w') : ZRow w' base v l :=
  World.ownsRow.kept (row := none) h ⟨hb.os, hb.tape, hb.output, hb.size, fun i hi _ => hb.block i hi⟩ (by cases hv : v.ownBlock <;> simp)
theorem ZRow.alloc (h : ZRow w base v l) (o : Obj) : ZRow (w.alloc o) base v l := World.ownsRow.alloc h o
theorem ZRow.low (h : ZRow w base v l) : ∀ g, v.ownBlock = some g → base ≤ g := fun g hg => (World.ownsRow.lt h g hg).1
theorem ZRow.push {x : Int} (h : w.ownsRow base 3 1 v (l.length + 1) (l.map (Value.int .i64) ++ [.int .i64 x])) : ZRow w base v (l ++ [x]) := by
  unfold ZRow
  rw [List.length_append, List.map_append]
  exact h
theorem ZRow.add {m : List Int} (h : w.ownsRow base 3 1 v (l.length + m.length) (l.map (Value.int .i64) ++ m.map (Value.int .i64))) : ZRow w base v (l ++ m) := by
  unfold ZRow
  rw [List.length_append, List.map_append]
  exact h
theorem ZRow.len (h : ZRow w base v l) : ∃ A cap, v = .slice A l.length cap := by
  rcases h.2 with ⟨rfl, hn⟩ | ⟨g, cap, cur, rfl, _⟩
  · exact ⟨none, 0, by rw [hn]⟩
  · exact ⟨_, _, rfl⟩
theorem ZRow.ints (h : ZRow w base v l) (hz : ∀ x ∈ l, IsI x) : IntsAt w v l := by
  rcases h.2 with ⟨rfl, hn⟩ | ⟨g, cap, cur, rfl, hb, hc, r1, r2, r3⟩
  · exact ⟨none, 0, by rw [hn], by omega, by omega, hz, fun h0 => by omega⟩
  · unfold maxLen at r2
    refine ⟨_, _, rfl, r1, r2, hz, fun h0 => ⟨g, 0, rfl, (Array.getElem?_eq_some_iff.1 hc).1, fun j hj => ?_⟩⟩
    rw [Nat.zero_add, World.ownsRow.cellAt h j (by omega), List.getElem?_map, List.getElem?_eq_getElem hj, inAt_lt hj]; rfl
end
theorem test_i64 (bits i : Nat) (h : bits < 1073741824) : Go.bits .and .i64 ((bits : Int) / 2 ^ i) 1 = if bits.testBit i then 1 else 0 := by
  have e : ((bits : Int) / 2 ^ i) = ((bits / 2 ^ i : Nat) : Int) := by push_cast; rfl
  have hle : bits / 2 ^ i ≤ bits := Nat.div_le_self _ _
  rw [e, Go.Proofs.and_one _ (by omega), Nat.testBit_eq_decide_div_mod_eq]
  have := Nat.mod_two_eq_zero_or_one (bits / 2 ^ i)
  rcases this with h | h <;> rw [h] <;> rfl
def chTo (l : List Int) (bits i : Nat) : List Int := ((List.range i).filter (fun k => bits.testBit k)).map (inAt l)
/-- Those of some numbers whose bits are 1. -/
def chosenS (l : List Int) (bits : Nat) : List Int := chTo l bits l.length
theorem ch_yes {l : List Int} {bits i : Nat} (h : bits.testBit i = true) : chTo l bits (i + 1) = chTo l bits i ++ [inAt l i] := by
  unfold chTo
  rw [List.range_succ, List.filter_append, List.map_append]
  simp [h]
theorem ch_no {l : List Int} {bits i : Nat} (h : bits.testBit i = false) : chTo l bits (i + 1) = chTo l bits i := by
  unfold chTo
  rw [List.range_succ, List.filter_append, List.map_append]
  simp [h]
theorem ch_le (l : List Int) (bits i : Nat) : (chTo l bits i).length ≤ i := by
  unfold chTo
  rw [List.length_map]
  have := List.length_filter_le (fun k => bits.testBit k) (List.range i)
  simpa using this
theorem ch_mem {l : List Int} {bits i : Nat} (hi : i ≤ l.length) {x : Int} (h : x ∈ chTo l bits i) : x ∈ l := by
  unfold chTo at h
  obtain ⟨k, hk, rfl⟩ := List.mem_map.1 h
  have := List.mem_range.1 (List.mem_filter.1 hk).1
  rw [inAt_lt (by omega)]
  exact List.getElem_mem _

end Go.Proofs.YtehokjaojanieaaDoor
