/- What classes.Members and classes.First answer. -/
import Derived.Test.YthmppooefajpgaaDoorProg
import Derived.Test.YthmppooefajpgaaDoorWords
import Derived.Test.YthmppooefajpgaaDoorCl
import Derived.Test.YthmppooefajpgaaDoorRow
import Derived.Test.YthmppooefajpgaaDoorMemb
import Derived.Test.YthmppooefajpgaaDoorSetOf
import Derived.Test.YthmppooefajpgaaDoorLeast
import Derived.Test.YthmppooefajpgaaDoorOwn
namespace Go.Proofs.YthmppooefajpgaaDoor
open Go.RowKit

theorem info_byte : (Tryd.prog.info? 5).map (fun i => (i.zero, i.size, i.bytes)) = some (some (.int .u8 0), 1, 1) := by kernel_rfl
theorem ret_set {a b : St} (h : a = b) : Ending.returned (.agg #[.int .u64 a.w0, .int .u64 a.w1, .int .u64 a.w2, .int .u64 a.w3]) = .returned (.agg #[.int .u64 b.w0, .int .u64 b.w1, .int .u64 b.w2, .int .u64 b.w3]) := by rw [h]
theorem below_two {w : World} (a b : Obj) : Below w.heap.size w ((w.alloc a).alloc b) := ((Below.refl _ _).alloc (Nat.le_refl _) _).alloc (by simp) _

set_option maxRecDepth 100000 in
set_option maxHeartbeats 1000000 in
theorem membersNone (c : Cl) (z : Int) (hz : z < 0 ∨ (¬ z < 0 ∧ c.n ≤ z)) (hM : c.members z = St.zero) (w : World) :
    Calls Tryd.prog 6 #[.agg c.cells, .int .i64 z] w fun e w' => e = .returned (.agg #[.int .u64 (c.members z).w0, .int .u64 (c.members z).w1, .int .u64 (c.members z).w2, .int .u64 (c.members z).w3]) ∧ Below w.heap.size w w' := by
  have HM := Lib.hid hM
  clear hM
  have hn := ((At.new w 26 c.cells).alloc (Obj.cells #[.int .u64 0, .int .u64 0, .int .u64 0, .int .u64 0] 30)).cell 256
  rw [Cl.getN] at hn
  have hZ : SetAt ((w.alloc (Obj.cells c.cells 26)).alloc (Obj.cells #[.int .u64 0, .int .u64 0, .int .u64 0, .int .u64 0] 30)) (w.heap.size + 1) 30 St.zero := at_new' _ _ _ (by simp)
  obtain ⟨f0, f1, f2, f3⟩ := hZ.frees
  obtain ⟨e0, e1, e2, e3⟩ := hZ.cells
  have HZ := Lib.hid hZ
  clear hZ
  rcases hz with h1 | ⟨h1, h2⟩
  · have d1 : decide (z < 0) = true := by rw [decide_eq_true_iff]; exact h1
    go_enter Tryd.func6, Tryd.ntmps6
    go_wp2
    exact bodyPost_ret (results_cell_row Tryd.results6 _ _ (w.heap.size + 1) 30 #[.int .u64 0, .int .u64 0, .int .u64 0, .int .u64 0] (0, 0) _ rfl HZ.out Tryd.underlying30 rfl (by kernel_rfl)) rfl ⟨by rw [HM.out]; rfl, below_two _ _⟩
  · have d1 : decide (z < 0) = false := by rw [decide_eq_false_iff_not]; exact h1
    have d2 : decide (c.n ≤ z) = true := by rw [decide_eq_true_iff]; exact h2
    go_enter Tryd.func6, Tryd.ntmps6
    go_wp2
    exact bodyPost_ret (results_cell_row Tryd.results6 _ _ (w.heap.size + 1) 30 #[.int .u64 0, .int .u64 0, .int .u64 0, .int .u64 0] (0, 0) _ rfl HZ.out Tryd.underlying30 rfl (by kernel_rfl)) rfl ⟨by rw [HM.out]; rfl, below_two _ _⟩

set_option maxRecDepth 100000 in
set_option maxHeartbeats 1000000 in
theorem membersSome (c : Cl) (hc : c.Ok) (z : Int) (h1 : 0 ≤ z) (h2 : z < c.n) (w : World) :
    Calls Tryd.prog 6 #[.agg c.cells, .int .i64 z] w fun e w' => e = .returned (.agg #[.int .u64 (c.members z).w0, .int .u64 (c.members z).w1, .int .u64 (c.members z).w2, .int .u64 (c.members z).w3]) ∧ Below w.heap.size w w' := by
  have HM := Lib.hid (members_in h1 h2)
  have HO := Lib.hid hc
  clear hc
  obtain ⟨i0, hi0, hz0, hz1, hz2⟩ := info_parts info_byte
  have hn := ((At.new w 26 c.cells).alloc (Obj.cells #[.int .u64 0, .int .u64 0, .int .u64 0, .int .u64 0] 30)).cell 256
  rw [Cl.getN] at hn
  have HR := Lib.hid (row_range c _ _ _ ((At.new w 26 c.cells).alloc (Obj.cells #[.int .u64 0, .int .u64 0, .int .u64 0, .int .u64 0] 30)))
  have d1 : decide (z < 0) = false := by rw [decide_eq_false_iff_not]; omega
  have d2 : decide (c.n ≤ z) = false := by rw [decide_eq_false_iff_not]; omega
  have d1' : ¬ z < 0 := by omega
  have d2' : ¬ c.n ≤ z := by omega
  go_enter Tryd.func6, Tryd.ntmps6
  go_wp2_with (refine wpList_load_mid rfl 24 _ rfl _ 0 rfl c.rowl _ HR.out Tryd.underlying24 rfl (by rw [Cl.rowl_length]; kernel_rfl) ?_)
  clear hn
  go_loopw [5, 19] (fun v i wr => ∃ k : Nat, k ≤ 256 ∧ i = .int .i64 k ∧ Hid (SetAt wr (w.heap.size + 1) 30 St.zero) ∧ Hid (IntRow wr (w.heap.size + 1 + 1) 5 .u8 v (memList c z k)) ∧ Hid (Below w.heap.size w wr)) (fun _ i _ => 256 - (intOf i).toNat)
  case atStart => exact ⟨0, by omega, rfl, Lib.hid (at_new' _ _ _ (by simp)), Lib.hid (IntRow.nil _ _ _ _), Lib.hid (below_two _ _)⟩
  case round =>
    obtain ⟨k, hk, rfl, hZ, hV, hB⟩ := hrel
    by_cases hlt : k < 256
    · have hidx := fun w1 => run_index_row Tryd.underlying24 Tryd.underlying5 (by kernel_rfl) c k hlt w1
      obtain ⟨x, hxe⟩ : ∃ x : Nat, c.cl k = x := ⟨_, rfl⟩
      have hx := HO.out k hlt
      rw [hxe] at hx
      simp only [hxe] at hidx
      have hw8 : IntKind.u8.wrap (k : Int) = (k : Int) := by rw [IntKind.wrap_u8']; omega
      by_cases he : (x : Int) = z
      · have HY := Lib.hid (memList_yes (c := c) (z := z) (k := k) (by rw [hxe]; exact he))
        have hxz : ((x : Int) == z) = true := by rw [beq_iff_eq]; exact he
        have hul := memList_le c z k
        have hBs := hB.out.size
        have hlZ := hZ.out.lt
        clear he hxe
        go_wp2_with (first
          | (at_builtin
             refine wpList_append_own _ rfl _ _ _ rfl (w.heap.size + 1 + 1) 5 i0 _ 1 1 Tryd.underlying36 hi0 hz0 hz1 hz2 rfl (by omega) u5 _ _ rfl (hV.out.alloc _) ⟨wr.heap.size, 0, none⟩ 1 1 [.int .u8 (k : Nat)] rfl rfl ?c1 ?c2 ?c3 ?c4 ?c5 ?_
             case c1 => exact (cell_one_new _ _ _)
             case c2 => simp [Value.oneCell']
             case c3 => unfold maxLen; omega
             case c4 => omega
             case c5 => simp; omega
             intro v' w4 hown4 hg4 _))
        exact ⟨⟨k + 1, by omega, by go_num, Lib.hid ((hZ.out.alloc _).grown hg4 (fun g hg => by have := hV.out.low g hg; omega)), by rw [HY.out]; exact Lib.hid (IntRow.push hown4), Lib.hid ((hB.out.alloc hBs _).grown hg4 (by simp; omega) (fun g hg => by have := hV.out.low g hg; omega))⟩, by simp [intOf]; omega⟩
      · have HY := Lib.hid (memList_no (c := c) (z := z) (k := k) (by rw [hxe]; exact he))
        have hxz : ((x : Int) == z) = false := by rw [beq_eq_false_iff_ne]; exact he
        clear he hxe
        go_wp2_with fail
        exact ⟨⟨k + 1, by omega, by go_num, hZ, by rw [HY.out]; exact hV, hB⟩, by simp [intOf]; omega⟩
    · obtain rfl : k = 256 := by omega
      obtain ⟨A, cap, rfl, hIB⟩ := hV.out.bytes (fun k h => memList_lt c z 256 k h)
      have HI := Lib.hid hIB
      clear hIB
      go_wp2_with fail
      refine (setOf (memList c z 256) A _ cap _ HI.out).mono ?_
      rintro e w3 ⟨rfl, hb3⟩
      have HZ := Lib.hid (hZ.out.step hb3 rfl)
      have HB := Lib.hid (below_step hB.out hb3 rfl rfl rfl rfl)
      clear hb3
      obtain ⟨f0, f1, f2, f3⟩ := HZ.out.frees
      obtain ⟨e0, e1, e2, e3⟩ := HZ.out.cells
      go_wp2_with fail
      exact bodyPost_ret (results_cell_row Tryd.results6 _ _ (w.heap.size + 1) 30 _ (0, 0) _ rfl (HZ.out.store ((memList c z 256).foldl St.put St.zero)) Tryd.underlying30 rfl (by kernel_rfl)) rfl ⟨ret_set HM.out.symm, below_store HB.out (by omega) _⟩

theorem clMembers (c : Cl) (hc : c.Ok) (z : Int) (w : World) :
    Calls Tryd.prog 6 #[.agg c.cells, .int .i64 z] w fun e w' => e = .returned (.agg #[.int .u64 (c.members z).w0, .int .u64 (c.members z).w1, .int .u64 (c.members z).w2, .int .u64 (c.members z).w3]) ∧ Below w.heap.size w w' := by
  by_cases h1 : z < 0
  · exact membersNone c z (.inl h1) (members_low h1) w
  · by_cases h2 : z < c.n
    · exact membersSome c hc z (by omega) h2 w
    · exact membersNone c z (.inr ⟨h1, by omega⟩) (members_high (by omega)) w

set_option maxRecDepth 100000 in
set_option maxHeartbeats 1000000 in
theorem clFirst (c : Cl) (hc : c.Ok) (z : Int) (w : World) (hT : Tab w) :
    Calls Tryd.prog 8 #[.agg c.cells, .int .i64 z] w fun e w' => e = .returned (.int .u8 ((leastOf (c.members z).list).1 : Nat)) ∧ Below w.heap.size w w' := by
  have HT := Lib.hid hT
  clear hT
  go_enter Tryd.func8, Tryd.ntmps8
  go_wp2_with (first | (refine wpList_load_row rfl 26 _ rfl w.heap.size rfl 26 c.cells (0, 0) _ (At.new w 26 c.cells) Tryd.underlying26 rfl (by rw [Cl.size]; kernel_rfl) ?_) | fail)
  refine (clMembers c hc z _).mono ?_
  rintro e w1 ⟨rfl, hb1⟩
  have hB : Below w.heap.size w w1 := ((Below.refl _ _).alloc (Nat.le_refl _) (Obj.cells c.cells 26)).trans (hb1.mono (by simp))
  clear hb1
  go_wp2_with fail
  refine (setLeast (c.members z) (members_ok c z) _ (HT.out.below hB)).mono ?_
  rintro e w2 ⟨rfl, hb2⟩
  have hB := below_step hB hb2 rfl rfl rfl rfl
  clear hb2
  go_wp2_with fail
  go_ret
  exact ⟨rfl, hB⟩

end Go.Proofs.YthmppooefajpgaaDoor
