/- ClassesMembers answers true, whatever sets there are, whatever class is asked for. -/
import Derived.Test.YthmppooefajpgaaDoorProg
import Derived.Test.YthmppooefajpgaaDoorWords
import Derived.Test.YthmppooefajpgaaDoorHas
import Derived.Test.YthmppooefajpgaaDoorCl
import Derived.Test.YthmppooefajpgaaDoorRow
import Derived.Test.YthmppooefajpgaaDoorMake
import Derived.Test.YthmppooefajpgaaDoorMemb
import Derived.Test.YthmppooefajpgaaDoorMembers
namespace Go.Proofs.YthmppooefajpgaaDoor
open Go.RowKit

set_option maxRecDepth 100000 in
set_option maxHeartbeats 4000000 in
theorem lawMembersLong (A : Option Addr) (n c : Nat) (z : Int) (hm : n ≤ 9223372036854775807) (hn : 30 < n) (w : World) :
    Calls Tryd.prog 3 #[.slice A n c, .int .i64 z] w fun e w' => e = .returned (.bool true) ∧ Below w.heap.size w w' := by
  go_enter Tryd.func3, Tryd.ntmps3
  go_wp2_with fail
  refine (awakeYes _).mono ?_
  rintro e w1 ⟨rfl, hb1⟩
  go_wp2_with fail
  refine (awakeYes _).mono ?_
  rintro e w2 ⟨rfl, hb2⟩
  go_wp2_with fail
  go_ret
  exact ⟨rfl, hb1.trans (hb2.mono hb1.size)⟩

theorem mem_low {c : Cl} {z : Int} {k : Nat} (h : ¬ 0 ≤ z) : c.mem z k = false := by unfold Cl.mem; simp [h]
theorem mem_high {c : Cl} {z : Int} {k : Nat} (h : ¬ z < c.n) : c.mem z k = false := by unfold Cl.mem; simp [h]
theorem mem_other {c : Cl} {z : Int} {k : Nat} (h : ¬ (c.cl k : Int) = z) : c.mem z k = false := by unfold Cl.mem; simp [h]
theorem mem_yes {c : Cl} {z : Int} {k : Nat} (h1 : 0 ≤ z) (h2 : z < c.n) (h3 : (c.cl k : Int) = z) : c.mem z k = true := by unfold Cl.mem; simp [h1, h2, h3]

set_option maxRecDepth 100000 in
set_option maxHeartbeats 4000000 in
theorem lawMembersShort (A : Option Addr) (n c : Nat) (l : List St) (z : Int) (w : World) (h : IsSets w A n l) (hn : n ≤ 30) (hT : Tab w) :
    Calls Tryd.prog 3 #[.slice A n c, .int .i64 z] w fun e w' => e = .returned (.bool true) ∧ Below w.heap.size w w' := by
  have HI := Lib.hid h
  have HT := Lib.hid hT
  clear h hT
  have z1 := zero_cl
  go_enter Tryd.func3, Tryd.ntmps3
  go_wp2_with fail
  refine (awakeYes _).mono ?_
  rintro e w1 ⟨rfl, hb1⟩
  go_wp2_with fail
  refine (clMake A n c l _ (HI.out.next hb1)).mono ?_
  rintro e w2 ⟨rfl, hb2⟩
  obtain ⟨X, hX⟩ : ∃ X : Cl, X = Cl.make l := ⟨_, rfl⟩
  have HXo : Hid X.Ok := by rw [hX]; exact make_ok l
  rw [← hX]
  clear hX
  obtain ⟨g, hg⟩ : ∃ g, g = w2.heap.size := ⟨_, rfl⟩
  have HG := Lib.hid hg
  clear hg
  have hC0 : At ((w2.alloc (Obj.cells Cl.zero.cells 26)).setRow w2.heap.size X.cells) w2.heap.size 26 X.cells := (At.new w2 26 Cl.zero.cells).row _
  have hB0 : Below w.heap.size w ((w2.alloc (Obj.cells Cl.zero.cells 26)).setRow w2.heap.size X.cells) := by
    have hB : Below w.heap.size w w2 := hb1.trans (hb2.mono hb1.size)
    exact below_row (hB.alloc hB.size _) hB.size _
  have HC0 := Lib.hid hC0
  have HB0 := Lib.hid hB0
  clear hC0 hB0 hb1 hb2
  go_wp2_with (first
    | (refine wpList_store_row rfl 26 _ _ rfl w2.heap.size X.cells rfl rfl 26 Cl.zero.cells (at_new' _ _ _ rfl) (by rw [Cl.size]; kernel_rfl) (by rw [Cl.size, Cl.size]) (Cl.one' _) ?_)
    | (refine wpList_load_row rfl 26 _ rfl w2.heap.size rfl 26 X.cells (0, 0) _ HC0.out Tryd.underlying26 rfl (by rw [Cl.size]; kernel_rfl) ?_))
  clear z1
  refine (clMembers X HXo.out z _).mono ?_
  rintro e w3 ⟨rfl, hb3⟩
  obtain ⟨M, hMe⟩ : ∃ M : St, M = X.members z := ⟨_, rfl⟩
  have HMo : Hid M.Ok := by rw [hMe]; exact members_ok X z
  have HMh : Hid (∀ b, b < 256 → M.has b = X.mem z b) := by rw [hMe]; exact fun b hb => members_has X z b hb
  have HMe := Lib.hid hMe
  rw [← hMe]
  clear hMe
  have HC1 := Lib.hid (HC0.out.step hb3 rfl)
  have HB1 := Lib.hid (below_step HB0.out hb3 rfl rfl rfl rfl)
  clear hb3 HC0 HB0
  rw [← HG.out] at HC1 ⊢
  clear HG
  go_wp2_with fail
  have hgm : g < w3.heap.size := HC1.out.lt
  have hws : w.heap.size ≤ w3.heap.size := HB1.out.size
  obtain ⟨gm, hgme⟩ : ∃ gm, gm = w3.heap.size := ⟨_, rfl⟩
  have HGM := Lib.hid hgme
  rw [← hgme] at hgm hws ⊢
  clear hgme
  go_loopw [7, 23] (fun f i wr => ∃ k : Nat, k ≤ 256 ∧ i = .int .i64 k ∧ f = .int .i64 (firstTo (X.mem z) k) ∧ Hid (At wr g 26 X.cells) ∧ Hid (SetAt wr gm 30 M) ∧ Hid (Below w.heap.size w wr)) (fun _ i _ => 256 - (intOf i).toNat)
  case atStart =>
    refine ⟨0, by omega, rfl, rfl, ?_, ?_, ?_⟩
    · exact Lib.hid (At.alloc HC1.out _)
    · rw [HGM.out]; exact Lib.hid (SetAt.new _ _ M)
    · exact Lib.hid (HB1.out.alloc (by rw [← HGM.out]; exact hws) _)
  case round =>
    obtain ⟨k, hk, rfl, rfl, hC, hM, hB⟩ := hrel
    obtain ⟨f, hf⟩ : ∃ f : Int, firstTo (X.mem z) k = f := ⟨_, rfl⟩
    rw [hf]
    have HF := Lib.hid hf
    clear hf
    by_cases hlt : k < 256
    · have hqn := hC.out.cell 256
      rw [Cl.getN] at hqn
      have hqx := hC.out.cell k
      rw [Cl.get _ k hlt] at hqx
      obtain ⟨x, hxe⟩ : ∃ x : Nat, X.cl k = x := ⟨_, rfl⟩
      have hx := HXo.out k hlt
      rw [hxe] at hx hqx
      have HX := Lib.hid hxe
      clear hxe
      obtain ⟨N, hN⟩ : ∃ N : Int, X.n = N := ⟨_, rfl⟩
      rw [hN] at hqn
      have HN := Lib.hid hN
      clear hN
      obtain ⟨c0, c1, c2, c3⟩ := hM.out.cells
      by_cases h1 : 0 ≤ z
      · have d1 : decide (0 ≤ z) = true := by rw [decide_eq_true_iff]; exact h1
        by_cases h2 : z < N
        · have d2 : decide (z < N) = true := by rw [decide_eq_true_iff]; exact h2
          by_cases h3 : (x : Int) = z
          · have d3 : ((x : Int) == z) = true := by rw [beq_iff_eq]; exact h3
            have HP : Hid (X.mem z k = true) := mem_yes h1 (by rw [HN.out]; exact h2) (by rw [HX.out]; exact h3)
            have HH : Hid (M.has k = true) := by rw [HMh.out k hlt]; exact HP.out
            clear h3
            by_cases h4 : f < 0
            · have d4 : decide (f < 0) = true := by rw [decide_eq_true_iff]; exact h4
              go_wp2_with fail
              refine (refHasV M HMo.out k hlt true HH.out _).mono ?_
              rintro e w4 ⟨rfl, hb4⟩
              have HC := Lib.hid (hC.out.step hb4 rfl)
              have HMm := Lib.hid (hM.out.step hb4 rfl)
              have HB := Lib.hid (below_step hB.out hb4 rfl rfl rfl rfl)
              clear hb4 c0 c1 c2 c3 hqn hqx
              go_wp2_with fail
              exact ⟨⟨k + 1, by omega, by go_num, by rw [firstTo_new HP.out (by rw [HF.out]; exact h4)], HC, HMm, HB⟩, by simp [intOf]; omega⟩
            · have d4 : decide (f < 0) = false := by rw [decide_eq_false_iff_not]; exact h4
              go_wp2_with fail
              refine (refHasV M HMo.out k hlt true HH.out _).mono ?_
              rintro e w4 ⟨rfl, hb4⟩
              have HC := Lib.hid (hC.out.step hb4 rfl)
              have HMm := Lib.hid (hM.out.step hb4 rfl)
              have HB := Lib.hid (below_step hB.out hb4 rfl rfl rfl rfl)
              clear hb4 c0 c1 c2 c3 hqn hqx
              go_wp2_with fail
              exact ⟨⟨k + 1, by omega, by go_num, by rw [firstTo_old (by rw [HF.out]; omega), HF.out], HC, HMm, HB⟩, by simp [intOf]; omega⟩
          · have d3 : ((x : Int) == z) = false := by rw [beq_eq_false_iff_ne]; exact h3
            have HP : Hid (X.mem z k = false) := mem_other (by rw [HX.out]; exact h3)
            have HH : Hid (M.has k = false) := by rw [HMh.out k hlt]; exact HP.out
            clear h3
            go_wp2_with fail
            refine (refHasV M HMo.out k hlt false HH.out _).mono ?_
            rintro e w4 ⟨rfl, hb4⟩
            have HC := Lib.hid (hC.out.step hb4 rfl)
            have HMm := Lib.hid (hM.out.step hb4 rfl)
            have HB := Lib.hid (below_step hB.out hb4 rfl rfl rfl rfl)
            clear hb4 c0 c1 c2 c3 hqn hqx
            go_wp2_with fail
            exact ⟨⟨k + 1, by omega, by go_num, by rw [firstTo_not HP.out, HF.out], HC, HMm, HB⟩, by simp [intOf]; omega⟩
        · have d2 : decide (z < N) = false := by rw [decide_eq_false_iff_not]; exact h2
          have HP : Hid (X.mem z k = false) := mem_high (by rw [HN.out]; exact h2)
          have HH : Hid (M.has k = false) := by rw [HMh.out k hlt]; exact HP.out
          go_wp2_with fail
          refine (refHasV M HMo.out k hlt false HH.out _).mono ?_
          rintro e w4 ⟨rfl, hb4⟩
          have HC := Lib.hid (hC.out.step hb4 rfl)
          have HMm := Lib.hid (hM.out.step hb4 rfl)
          have HB := Lib.hid (below_step hB.out hb4 rfl rfl rfl rfl)
          clear hb4 c0 c1 c2 c3 hqn hqx
          go_wp2_with fail
          exact ⟨⟨k + 1, by omega, by go_num, by rw [firstTo_not HP.out, HF.out], HC, HMm, HB⟩, by simp [intOf]; omega⟩
      · have d1 : decide (0 ≤ z) = false := by rw [decide_eq_false_iff_not]; exact h1
        have HP : Hid (X.mem z k = false) := mem_low h1
        have HH : Hid (M.has k = false) := by rw [HMh.out k hlt]; exact HP.out
        go_wp2_with fail
        refine (refHasV M HMo.out k hlt false HH.out _).mono ?_
        rintro e w4 ⟨rfl, hb4⟩
        have HC := Lib.hid (hC.out.step hb4 rfl)
        have HMm := Lib.hid (hM.out.step hb4 rfl)
        have HB := Lib.hid (below_step hB.out hb4 rfl rfl rfl rfl)
        clear hb4 c0 c1 c2 c3 hqn hqx
        go_wp2_with fail
        exact ⟨⟨k + 1, by omega, by go_num, by rw [firstTo_not HP.out, HF.out], HC, HMm, HB⟩, by simp [intOf]; omega⟩
    · obtain rfl : k = 256 := by omega
      go_wp2_with (first | (refine wpList_load_row rfl 26 _ rfl g rfl 26 X.cells (0, 0) _ hC.out Tryd.underlying26 rfl (by rw [Cl.size]; kernel_rfl) ?_) | fail)
      refine (clFirst X HXo.out z _ (HT.out.below hB.out)).mono ?_
      rintro e w4 ⟨rfl, hb4⟩
      have HB := Lib.hid (below_step hB.out hb4 rfl rfl rfl rfl)
      clear hb4
      rw [← HMe.out]
      have hl := least_first M
      have hy := least_lt M
      rw [firstTo_congr 256 HMh.out, HF.out] at hl
      have hge : -1 ≤ f := by rw [← HF.out]; exact firstTo_ge _ _
      obtain ⟨y, hye⟩ : ∃ y : Nat, (leastOf M.list).1 = y := ⟨_, rfl⟩
      rw [hye] at hl hy ⊢
      clear hye
      by_cases hf : f < 0
      · rw [if_pos hf] at hl
        have hy0 : y = 0 := by omega
        subst hy0
        clear hl
        go_wp2_with fail
        go_ret
        exact ⟨rfl, HB.out⟩
      · rw [if_neg hf] at hl
        have HL := Lib.hid hl
        clear hl
        go_wp2_with fail
        go_ret
        exact ⟨ret_bool (by rw [HL.out]; simp), HB.out⟩

theorem lawMembers (A : Option Addr) (n c : Nat) (l : List St) (z : Int) (w : World) (h : IsSets w A n l) (hT : Tab w) :
    Calls Tryd.prog 3 #[.slice A n c, .int .i64 z] w fun e w' => e = .returned (.bool true) ∧ Below w.heap.size w w' := by
  by_cases hn : n ≤ 30
  · exact lawMembersShort A n c l z w h hn hT
  · exact lawMembersLong A n c z h.2.1 (by omega) w

end Go.Proofs.YthmppooefajpgaaDoor
