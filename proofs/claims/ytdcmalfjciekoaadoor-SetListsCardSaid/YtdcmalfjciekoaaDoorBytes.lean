/- What the reference's Bytes answers: the list of a set's bytes, rising. -/
import Derived.Test.YtdcmalfjciekoaaDoorProg
import Derived.Test.YtdcmalfjciekoaaDoorHas
import Derived.Test.YtdcmalfjciekoaaDoorLists
import Derived.Test.YtdcmalfjciekoaaDoorOwn
namespace Go.Proofs.YtdcmalfjciekoaaDoor
open Go.RowKit

def St.upto (s : St) (k : Nat) : List Nat := (List.range k).filter (fun x => s.has x)
theorem St.upto_yes (s : St) (k : Nat) (h : s.has k = true) : s.upto (k + 1) = s.upto k ++ [k] := by unfold St.upto; rw [List.range_succ, List.filter_append]; simp [h]
theorem St.upto_no (s : St) (k : Nat) (h : s.has k = false) : s.upto (k + 1) = s.upto k := by unfold St.upto; rw [List.range_succ, List.filter_append]; simp [h]
theorem St.upto_le (s : St) (k : Nat) : (s.upto k).length ≤ k := by
  have := List.length_filter_le (fun x => s.has x) (List.range k)
  simpa [St.upto] using this
theorem info_int : (Tryd.prog.info? 3).map (fun i => (i.zero, i.size, i.bytes)) = some (some (.int .i64 0), 1, 8) := by kernel_rfl
def Yields1 (w : World) (l : List Nat) (e : Ending) (w' : World) : Prop := ∃ v, e = .returned v ∧ IntRow w' w.heap.size 3 .i64 v l ∧ Below w.heap.size w w'

set_option maxRecDepth 100000 in
set_option maxHeartbeats 2000000 in
theorem refBytes (s : St) (hs : s.Ok) (w : World) :
    Calls Tryd.prog 6 #[.agg #[.int .u64 s.w0, .int .u64 s.w1, .int .u64 s.w2, .int .u64 s.w3]] w (Yields1 w s.list) := by
  obtain ⟨i0, hi0, hz0, hz1, hz2⟩ := info_parts info_int
  go_enter Tryd.func6, Tryd.ntmps6
  go_wp2
  go_loopw [3, 5] (fun v i wr => ∃ k : Nat, k ≤ 256 ∧ i = .int .i64 k ∧ SetAt wr w.heap.size 24 s ∧ IntRow wr (w.heap.size + 1) 3 .i64 v (s.upto k) ∧ Below w.heap.size w wr) (fun _ i _ => 256 - (intOf i).toNat)
  case atStart => exact ⟨0, by omega, rfl, SetAt.new _ _ s, IntRow.nil _ _ _ _, (Below.refl _ _).alloc (Nat.le_refl _) _⟩
  case round =>
    obtain ⟨k, hk, rfl, hA, hR, hB⟩ := hrel
    by_cases hlt : k < 256
    · rcases hh : s.has k with _ | _
      · have HH := Lib.hid hh
        have HU := Lib.hid (s.upto_no k hh)
        clear hh
        obtain ⟨c0, c1, c2, c3⟩ := hA.cells
        go_wp2_with fail
        refine (refHasV s hs k hlt false HH.out _).mono ?_
        rintro e w3 ⟨rfl, hb3⟩
        have hA := hA.step hb3 rfl
        have hR := hR.step hb3 rfl
        have hB := below_step hB hb3 rfl rfl rfl rfl
        clear c0 c1 c2 c3
        go_wp2_with fail
        exact ⟨⟨k + 1, by omega, by go_num, hA, by rw [HU.out]; exact hR, hB⟩, by simp [intOf]; omega⟩
      · have HH := Lib.hid hh
        have HU := Lib.hid (s.upto_yes k hh)
        have hul := s.upto_le k
        clear hh
        obtain ⟨c0, c1, c2, c3⟩ := hA.cells
        go_wp2_with fail
        refine (refHasV s hs k hlt true HH.out _).mono ?_
        rintro e w3 ⟨rfl, hb3⟩
        have hA := hA.step hb3 rfl
        have hR := hR.step hb3 rfl
        have hB := below_step hB hb3 rfl rfl rfl rfl
        have hBs := hB.size
        have hlA := hA.lt
        clear c0 c1 c2 c3
        go_wp2_with (first
          | (at_builtin
             refine wpList_append_own _ rfl _ _ _ rfl (w.heap.size + 1) 3 i0 _ 1 8 Tryd.underlying28 hi0 hz0 hz1 hz2 rfl (by omega) u3 _ _ rfl (hR.alloc _) ⟨w3.heap.size, 0, none⟩ 1 1 [.int .i64 (k : Nat)] rfl rfl ?c1 ?c2 ?c3 ?c4 ?c5 ?_
             case c1 => exact (cell_one_new _ _ _)
             case c2 => simp [Value.oneCell']
             case c3 => unfold maxLen; omega
             case c4 => omega
             case c5 => simp; omega
             intro v' w4 hown4 hg4 _))
        exact ⟨⟨k + 1, by omega, by go_num, (hA.alloc _).grown hg4 (fun g hg => by have := hR.low g hg; omega), by rw [HU.out]; exact IntRow.push hown4, (hB.alloc hBs _).grown hg4 (by simp; omega) (fun g hg => by have := hR.low g hg; omega)⟩, by simp [intOf]; omega⟩
    · have hk2 : k = 256 := by omega
      subst hk2
      go_wp2_with fail
      go_ret
      exact ⟨_, rfl, hR.mono (by omega), hB⟩

end Go.Proofs.YtdcmalfjciekoaaDoor
