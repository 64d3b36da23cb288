/- Rows of numbers of the call's own; bolterref09.chosen. -/
import Derived.Test.YtehokjaojanieaaFm
import Derived.Laws.OwnMore
import Derived.Deep.AppendLies
import Derived.Deep.OwnRows
import Derived.Lib.RabinKarpLaws
namespace Go.Proofs.Ytehokjaojanieaa
open Go.RowKit
set_option linter.unusedVariables false
set_option linter.unusedSimpArgs false

theorem info_intZ : (Try.prog.info? 3).map (fun i => (i.zero, i.size, i.bytes)) = some (some (.int .i64 0), 1, 8) := by kernel_rfl
/-- Numbers in a row of the call's own, appended to. -/
def ZRow (w : World) (base : Nat) (v : Value) (l : List Int) : Prop := w.ownsRow base 3 1 v l.length (l.map (Value.int .i64))
section
variable {w w' : World} {base : Nat} {v : Value} {l : List Int}
theorem ZRow.nil (w : World) (base : Nat) : ZRow w base (.slice none 0 0) [] := World.ownsRow_nil w base _ 1
theorem ZRow.next (h : ZRow w base v l) (hb : Below w.heap.size w w') : ZRow w' base v l :=
  World.ownsRow.kept (row := none) h ⟨hb.os, hb.tape, hb.output, hb.size, fun i hi _ => hb.block i hi⟩ (by cases hv : v.ownBlock <;> simp)
theorem ZRow.alloc (h : ZRow w base v l) (o : Obj) : ZRow (w.alloc o) base v l := World.ownsRow.alloc h o
theorem ZRow.low (h : ZRow w base v l) : ∀ g, v.ownBlock = some g → base ≤ g := fun g hg => (World.ownsRow.lt h g hg).1
theorem ZRow.push {x : Int} (h : w.ownsRow base 3 1 v (l.length + 1) (l.map (Value.int .i64) ++ [.int .i64 x])) : ZRow w base v (l ++ [x]) := by
  unfold ZRow
  rw [List.length_append, List.map_append]
  exact h
theorem ZRow.add {m : List Int} (h : w.ownsRow base 3 1 v (l.length + m.length) (l.map (Value.int .i64) ++ m.map (Value.int .i64))) : ZRow w base v (l ++ m) := by
  unfold ZRow
  rw [List.length_append, List.map_append]
  exact h
theorem ZRow.len (h : ZRow w base v l) : ∃ A cap, v = .slice A l.length cap := by
  rcases h.2 with ⟨rfl, hn⟩ | ⟨g, cap, cur, rfl, _⟩
  · exact ⟨none, 0, by rw [hn]⟩
  · exact ⟨_, _, rfl⟩
theorem ZRow.ints (h : ZRow w base v l) (hz : ∀ x ∈ l, IsI x) : IntsAt w v l := by
  rcases h.2 with ⟨rfl, hn⟩ | ⟨g, cap, cur, rfl, hb, hc, r1, r2, r3⟩
  · exact ⟨none, 0, by rw [hn], by omega, by omega, hz, fun h0 => by omega⟩
  · unfold maxLen at r2
    refine ⟨_, _, rfl, r1, r2, hz, fun h0 => ⟨g, 0, rfl, (Array.getElem?_eq_some_iff.1 hc).1, fun j hj => ?_⟩⟩
    rw [Nat.zero_add, World.ownsRow.cellAt h j (by omega), List.getElem?_map, List.getElem?_eq_getElem hj, inAt_lt hj]; rfl
end
theorem test_i64 (bits i : Nat) (h : bits < 1073741824) : Go.bits .and .i64 ((bits : Int) / 2 ^ i) 1 = if bits.testBit i then 1 else 0 := by
  have e : ((bits : Int) / 2 ^ i) = ((bits / 2 ^ i : Nat) : Int) := by push_cast; rfl
  have hle : bits / 2 ^ i ≤ bits := Nat.div_le_self _ _
  rw [e, Go.Proofs.and_one _ (by omega), Nat.testBit_eq_decide_div_mod_eq]
  have := Nat.mod_two_eq_zero_or_one (bits / 2 ^ i)
  rcases this with h | h <;> rw [h] <;> rfl
def chTo (l : List Int) (bits i : Nat) : List Int := ((List.range i).filter (fun k => bits.testBit k)).map (inAt l)
/-- Those of some numbers whose bits are 1. -/
def chosenS (l : List Int) (bits : Nat) : List Int := chTo l bits l.length
theorem ch_yes {l : List Int} {bits i : Nat} (h : bits.testBit i = true) : chTo l bits (i + 1) = chTo l bits i ++ [inAt l i] := by
  unfold chTo
  rw [List.range_succ, List.filter_append, List.map_append]
  simp [h]
theorem ch_no {l : List Int} {bits i : Nat} (h : bits.testBit i = false) : chTo l bits (i + 1) = chTo l bits i := by
  unfold chTo
  rw [List.range_succ, List.filter_append, List.map_append]
  simp [h]
theorem ch_le (l : List Int) (bits i : Nat) : (chTo l bits i).length ≤ i := by
  unfold chTo
  rw [List.length_map]
  have := List.length_filter_le (fun k => bits.testBit k) (List.range i)
  simpa using this
theorem ch_mem {l : List Int} {bits i : Nat} (hi : i ≤ l.length) {x : Int} (h : x ∈ chTo l bits i) : x ∈ l := by
  unfold chTo at h
  obtain ⟨k, hk, rfl⟩ := List.mem_map.1 h
  have := List.mem_range.1 (List.mem_filter.1 hk).1
  rw [inAt_lt (by omega)]
  exact List.getElem_mem _

set_option maxRecDepth 100000 in
set_option maxHeartbeats 4000000 in
theorem refChosen (l : List Int) (A : Option Addr) (n c bits : Nat) (w : World) (h : IntsAt w (.slice A n c) l) (hl : l.length ≤ 30) (hbits : bits < 1073741824) :
    Calls Try.prog 34 #[.slice A n c, .int .i64 bits] w fun e w' => ∃ v, e = .returned v ∧ IntsAt w' v (chosenS l bits) ∧ Below w.heap.size w w' := by
  have HI := Lib.hid h
  have hm := h.max
  obtain rfl := h.len
  clear h
  obtain ⟨i0, hi0, hz0, hz1, hz2⟩ := info_parts info_intZ
  go_enter Try.func34, Try.ntmps34
  go_wp2_with fail
  go_loopw [5, 9] (fun u v wr => ∃ i : Nat, i ≤ l.length ∧ v = .int .i64 i ∧ Hid (ZRow wr w.heap.size u (chTo l bits i)) ∧ Hid (Below w.heap.size w wr)) (fun _ v _ => l.length - (intOf v).toNat)
  case atStart => exact ⟨0, Nat.zero_le _, rfl, Lib.hid (ZRow.nil _ _), Lib.hid (Below.refl _ _)⟩
  case round =>
    obtain ⟨i, hi, rfl, HR, HB⟩ := hrel
    by_cases hlt : i < l.length
    · have h1 : (0 : Int) ≤ (i : Int) := by omega
      have h2 : (i : Int) < (l.length : Int) := by omega
      have hie : i < 30 := by omega
      obtain ⟨b, off, rfl, hbb, q1⟩ := (HI.out.next HB.out).at i hlt
      have hle := ch_le l bits i
      have hs := HB.out.size
      have ht := test_i64 bits i hbits
      have HRl := HR
      clear hbb
      cases htb : bits.testBit i
      · rw [htb] at ht
        have HN := Lib.hid (ch_no (l := l) htb)
        clear htb
        simp only [Bool.false_eq_true, if_false] at ht
        go_wp2_with fail
        refine ⟨⟨i + 1, by omega, by go_num, by rw [HN.out]; exact HR, HB⟩, by simp [intOf]; omega⟩
      · rw [htb] at ht
        have HN := Lib.hid (ch_yes (l := l) htb)
        clear htb
        simp only [if_true] at ht
        go_wp2_with (first
          | (at_builtin
             refine wpList_append_own _ rfl _ _ _ rfl w.heap.size 3 i0 _ 1 8 Try.underlying34 hi0 hz0 hz1 hz2 rfl (by omega) u5 _ _ rfl (HRl.out.alloc _) ⟨wr.heap.size, 0, none⟩ 1 1 [.int .i64 (inAt l i)] rfl rfl ?c1 ?c2 ?c3 ?c4 ?c5 ?_
             case c1 => exact (cell_one_new _ _ _)
             case c2 => simp [Value.oneCell']
             case c3 => unfold maxLen; omega
             case c4 => omega
             case c5 => simp; omega
             intro v' w4 hown4 hg4 _)
          | fail)
        refine ⟨⟨i + 1, by omega, by go_num, Lib.hid (by rw [HN.out]; exact ZRow.push hown4), Lib.hid ((HB.out.alloc hs _).grown hg4 (by simp; omega) (fun g hg => HR.out.low g hg))⟩, by simp [intOf]; omega⟩
    · obtain rfl : i = l.length := by omega
      go_wp2_with fail
      go_ret
      refine ⟨u5, rfl, HR.out.ints (fun x hx => ?_), HB.out⟩
      obtain ⟨_, _, _, _, _, hz, _⟩ := HI.out
      exact hz x (ch_mem (Nat.le_refl _) hx)

end Go.Proofs.Ytehokjaojanieaa
