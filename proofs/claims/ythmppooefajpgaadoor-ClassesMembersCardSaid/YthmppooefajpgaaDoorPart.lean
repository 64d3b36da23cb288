/- What classes.part answers: each class cut into its bytes in the set and its other ones, numbered as they come up. -/
import Derived.Test.YthmppooefajpgaaDoorProg
import Derived.Test.YthmppooefajpgaaDoorWords
import Derived.Test.YthmppooefajpgaaDoorHas
import Derived.Test.YthmppooefajpgaaDoorCl
import Derived.Test.YthmppooefajpgaaDoorRow
import Derived.RegionTactic
import Derived.Deep.WholeRow
namespace Go.Proofs.YthmppooefajpgaaDoor
open Go.RowKit

theorem zero_cl (w : World) : (zeroValue 26).run Tryd.prog w = .ok (.agg Cl.zero.cells) w := (zero_of_info (n := 257) (by kernel_rfl)).1 w
theorem zero_giv (w : World) : (zeroValue 41).run Tryd.prog w = .ok (.agg (giv [])) w := (zero_of_info (n := 512) (by kernel_rfl)).1 w
theorem zero_num (w : World) : (zeroValue 43).run Tryd.prog w = .ok (.agg (num [])) w := (zero_of_info (n := 512) (by kernel_rfl)).1 w

set_option maxRecDepth 100000 in
set_option maxHeartbeats 1000000 in
theorem clPart (c : Cl) (hc : c.Ok) (s : St) (hs : s.Ok) (w : World) :
    Calls Tryd.prog 9 #[.agg c.cells, .agg #[.int .u64 s.w0, .int .u64 s.w1, .int .u64 s.w2, .int .u64 s.w3]] w fun e w' => e = .returned (.agg (c.part s).cells) ∧ Below w.heap.size w w' := by
  have HO := Lib.hid hc
  have HS := Lib.hid hs
  clear hc hs
  have z1 := zero_cl
  have z2 := zero_giv
  have z3 := zero_num
  have HC : Hid (∀ w1 : World, Below (w.heap.size + 1) (w.alloc (Obj.cells c.cells 26)) w1 → w1.rangeAt w.heap.size 0 c.rowl) := fun w1 hb => row_range c _ _ _ ((At.new w 26 c.cells).below hb (by omega))
  go_enter Tryd.func9, Tryd.ntmps9
  go_wp2_with (refine wpList_load_mid rfl 24 _ rfl _ 0 rfl c.rowl _ (HC.out _ (by repeat (first | exact Below.refl _ _ | refine Below.alloc ?_ (by simp) _))) Tryd.underlying24 rfl (by rw [Cl.rowl_length]; kernel_rfl) ?_)
  clear z1 z2 z3
  go_loopw [13] (fun i wr => ∃ k : Nat, k ≤ 256 ∧ i = .int .i64 k ∧ Hid (SetAt wr (w.heap.size + 1) 30 s) ∧ Hid (At wr (w.heap.size + 1 + 1) 26 Cl.zero.cells) ∧
    Hid (At wr (w.heap.size + 1 + 1 + 1) 26 (c.partTo s k).cells) ∧ Hid (At wr (w.heap.size + 1 + 1 + 1 + 1) 41 (giv (nub (c.key s) k))) ∧ Hid (At wr (w.heap.size + 1 + 1 + 1 + 1 + 1) 43 (num (nub (c.key s) k))) ∧ Hid (Below w.heap.size w wr)) (fun i _ => 256 - (intOf i).toNat)
  case atStart =>
    refine ⟨0, Nat.zero_le _, rfl, ?_, ?_, ?_, ?_, ?_, ?_⟩
    · exact Lib.hid (At.alloc (At.alloc (At.alloc (At.alloc (at_new' _ _ _ (by simp)) _) _) _) _)
    · exact Lib.hid (At.alloc (At.alloc (At.alloc (at_new' _ _ _ (by simp)) _) _) _)
    · rw [Cl.partTo_zero]; exact Lib.hid (At.alloc (At.alloc (at_new' _ _ _ (by simp)) _) _)
    · exact Lib.hid (At.alloc (at_new' _ _ _ (by simp)) _)
    · exact Lib.hid (at_new' _ _ _ (by simp))
    · refine Lib.hid ?_
      repeat (first | exact Below.refl _ _ | refine Below.alloc ?_ (by simp; try omega) _)
  case round =>
    obtain ⟨k, hk, rfl, hS, hZ, hP, hG, hN, hB⟩ := hrel
    by_cases hlt : k < 256
    · have hidx := fun w1 => run_index_row Tryd.underlying24 Tryd.underlying5 (by kernel_rfl) c k hlt w1
      obtain ⟨x, hxe⟩ : ∃ x : Nat, c.cl k = x := ⟨_, rfl⟩
      have hx := HO.out k hlt
      rw [hxe] at hx
      simp only [hxe] at hidx
      obtain ⟨v, hv⟩ : ∃ v : Bool, s.has k = v := ⟨_, rfl⟩
      have HK0 : Hid (c.key s k = x * 2 + (if v then 1 else 0)) := by unfold Cl.key; rw [hxe, hv, Nat.mul_comm]; exact rfl
      have HV := Lib.hid hv
      clear hxe hv
      have hw8 : IntKind.u8.wrap (k : Int) = (k : Int) := by rw [IntKind.wrap_u8]; omega
      obtain ⟨c0, c1, c2, c3⟩ := hS.out.cells
      go_wp2_with fail
      refine (setHasV s HS.out k hlt v HV.out _).mono ?_
      rintro e w1 ⟨rfl, hb1⟩
      have HS1 := Lib.hid (hS.out.next hb1)
      have HZ1 := Lib.hid (hZ.out.below hb1 hZ.out.lt)
      have HP1 := Lib.hid (hP.out.below hb1 hP.out.lt)
      have HG1 := Lib.hid (hG.out.below hb1 hG.out.lt)
      have HN1 := Lib.hid (hN.out.below hb1 hN.out.lt)
      have HB1 := Lib.hid (hB.out.trans (hb1.mono hB.out.size))
      have HL := Lib.hid (nub_length (c.key s) k)
      clear hS hZ hP hG hN hB c0 c1 c2 c3 hb1
      cases v
      · have HK : Hid (c.key s k = x * 2) := by have h := HK0.out; simp at h; exact h
        clear HK0
        by_cases hm : x * 2 ∈ nub (c.key s) k
        · have hg := HG1.out.cell (x * 2)
          rw [giv_get _ _ (by omega), decide_eq_true hm] at hg
          have hn := HN1.out.cell (x * 2)
          rw [num_get _ _ (by omega) hm] at hn
          have hq := HP1.out.cell k
          rw [Cl.get _ k hlt] at hq
          have hqf := HP1.out.free k
          obtain ⟨r, hr⟩ : ∃ r : Nat, (nub (c.key s) k).idxOf (x * 2) = r := ⟨_, rfl⟩
          rw [hr] at hn
          have HR := Lib.hid hr
          have HM := Lib.hid hm
          clear hr hm
          go_wp2
          go_roundw
          case rel =>
            have hmem : c.key s k ∈ nub (c.key s) k := by rw [HK.out]; exact HM.out
            have hidxr : r = (nub (c.key s) (k + 1)).idxOf (c.key s k) := by rw [nub_idx_step _ _ _ hmem, HK.out]; exact HR.out.symm
            refine ⟨k + 1, by omega, by go_num, HS1.out.other' (by dsimp only; omega) _, HZ1.out.other (by dsimp only; omega) _, ?_, ?_, ?_, ?_⟩
            · have h := HP1.out.set k (.int .u8 (r : Nat))
              rw [partTo_same c s k hmem, partTo_step c s k hlt r hidxr] at h
              exact Lib.hid h
            · rw [nub_old hmem]; exact Lib.hid (HG1.out.other (by dsimp only; omega) _)
            · rw [nub_old hmem]; exact Lib.hid (HN1.out.other (by dsimp only; omega) _)
            · exact Lib.hid (HB1.out.setCell (by dsimp only; omega) _)
          case measure => simp [intOf]; omega
        · have hg := HG1.out.cell (x * 2)
          rw [giv_get _ _ (by omega), decide_eq_false hm] at hg
          have hgf := HG1.out.free (x * 2)
          have hnf := HN1.out.free (x * 2)
          obtain ⟨qn, hn⟩ : ∃ qn, w1.cell? ⟨w.heap.size + 1 + 1 + 1 + 1 + 1, x * 2, none⟩ = some qn := ⟨_, (HN1.out.cell (x * 2)).trans (arr_get _ _ _ (by omega))⟩
          have hq := HP1.out.cell k
          rw [Cl.get _ k hlt] at hq
          have hqf := HP1.out.free k
          have hqn := HP1.out.cell 256
          rw [Cl.getN] at hqn
          have hqnf := HP1.out.free 256
          obtain ⟨n, hnl⟩ : ∃ n : Nat, (nub (c.key s) k).length = n := ⟨_, rfl⟩
          have hnk : n ≤ k := by rw [← hnl]; exact HL.out
          rw [show (c.partTo s k).n = (n : Int) from by rw [← hnl]; rfl] at hqn
          have hwn : IntKind.u8.wrap (n : Int) = (n : Int) := by rw [IntKind.wrap_u8]; omega
          have HR := Lib.hid hnl
          have HM := Lib.hid hm
          clear hnl hm
          go_wp2
          go_region
          go_wp2
          go_roundw
          case rel =>
            have hmem : ¬ c.key s k ∈ nub (c.key s) k := by rw [HK.out]; exact HM.out
            have hlen : (nub (c.key s) (k + 1)).length = n + 1 := by rw [nub_new hmem, List.length_append, HR.out]; rfl
            have hidxn : n = (nub (c.key s) (k + 1)).idxOf (c.key s k) := by rw [nub_idx_new _ _ hmem]; exact HR.out.symm
            refine ⟨k + 1, by omega, by go_num, ?_, ?_, ?_, ?_, ?_, ?_⟩
            · exact Lib.hid ((((HS1.out.other' (by dsimp only; omega) _).other' (by dsimp only; omega) _).other' (by dsimp only; omega) _).other' (by dsimp only; omega) _)
            · exact Lib.hid ((((HZ1.out.other (by dsimp only; omega) _).other (by dsimp only; omega) _).other (by dsimp only; omega) _).other (by dsimp only; omega) _)
            · have h := (((HP1.out.other (p := ⟨w.heap.size + 1 + 1 + 1 + 1, x * 2, none⟩) (by dsimp only; omega) (.bool true)).other (p := ⟨w.heap.size + 1 + 1 + 1 + 1 + 1, x * 2, none⟩) (by dsimp only; omega) (.int .u8 (n : Nat))).set 256 (.int .i64 ((n + 1 : Nat) : Int))).set k (.int .u8 (n : Nat))
              rw [partTo_n, ← hlen, partTo_step c s k hlt n hidxn, hlen] at h
              exact Lib.hid h
            · have h := HG1.out.set (x * 2) (.bool true)
              rw [giv_new, ← HK.out, ← nub_new hmem, HK.out] at h
              exact Lib.hid (((h.other (by dsimp only; omega) _).other (by dsimp only; omega) _).other (by dsimp only; omega) _)
            · have h := (HN1.out.other (p := ⟨w.heap.size + 1 + 1 + 1 + 1, x * 2, none⟩) (by dsimp only; omega) (.bool true)).set (x * 2) (.int .u8 (n : Nat))
              rw [← HR.out, num_new _ _ HM.out, ← HK.out, ← nub_new hmem, HK.out, HR.out] at h
              exact Lib.hid ((h.other (by dsimp only; omega) _).other (by dsimp only; omega) _)
            · exact Lib.hid (Below.drew ((((HB1.out.setCell (by dsimp only; omega) _).setCell (by dsimp only; omega) _).setCell (by dsimp only; omega) _).setCell (by dsimp only; omega) _))
          case measure => simp [intOf]; omega
      · have HK : Hid (c.key s k = x * 2 + 1) := by have h := HK0.out; simp at h; exact h
        clear HK0
        by_cases hm : x * 2 + 1 ∈ nub (c.key s) k
        · have hg := HG1.out.cell (x * 2 + 1)
          rw [giv_get _ _ (by omega), decide_eq_true hm] at hg
          have hn := HN1.out.cell (x * 2 + 1)
          rw [num_get _ _ (by omega) hm] at hn
          have hq := HP1.out.cell k
          rw [Cl.get _ k hlt] at hq
          have hqf := HP1.out.free k
          obtain ⟨r, hr⟩ : ∃ r : Nat, (nub (c.key s) k).idxOf (x * 2 + 1) = r := ⟨_, rfl⟩
          rw [hr] at hn
          have HR := Lib.hid hr
          have HM := Lib.hid hm
          clear hr hm
          go_wp2
          go_roundw
          case rel =>
            have hmem : c.key s k ∈ nub (c.key s) k := by rw [HK.out]; exact HM.out
            have hidxr : r = (nub (c.key s) (k + 1)).idxOf (c.key s k) := by rw [nub_idx_step _ _ _ hmem, HK.out]; exact HR.out.symm
            refine ⟨k + 1, by omega, by go_num, HS1.out.other' (by dsimp only; omega) _, HZ1.out.other (by dsimp only; omega) _, ?_, ?_, ?_, ?_⟩
            · have h := HP1.out.set k (.int .u8 (r : Nat))
              rw [partTo_same c s k hmem, partTo_step c s k hlt r hidxr] at h
              exact Lib.hid h
            · rw [nub_old hmem]; exact Lib.hid (HG1.out.other (by dsimp only; omega) _)
            · rw [nub_old hmem]; exact Lib.hid (HN1.out.other (by dsimp only; omega) _)
            · exact Lib.hid (HB1.out.setCell (by dsimp only; omega) _)
          case measure => simp [intOf]; omega
        · have hg := HG1.out.cell (x * 2 + 1)
          rw [giv_get _ _ (by omega), decide_eq_false hm] at hg
          have hgf := HG1.out.free (x * 2 + 1)
          have hnf := HN1.out.free (x * 2 + 1)
          obtain ⟨qn, hn⟩ : ∃ qn, w1.cell? ⟨w.heap.size + 1 + 1 + 1 + 1 + 1, x * 2 + 1, none⟩ = some qn := ⟨_, (HN1.out.cell (x * 2 + 1)).trans (arr_get _ _ _ (by omega))⟩
          have hq := HP1.out.cell k
          rw [Cl.get _ k hlt] at hq
          have hqf := HP1.out.free k
          have hqn := HP1.out.cell 256
          rw [Cl.getN] at hqn
          have hqnf := HP1.out.free 256
          obtain ⟨n, hnl⟩ : ∃ n : Nat, (nub (c.key s) k).length = n := ⟨_, rfl⟩
          have hnk : n ≤ k := by rw [← hnl]; exact HL.out
          rw [show (c.partTo s k).n = (n : Int) from by rw [← hnl]; rfl] at hqn
          have hwn : IntKind.u8.wrap (n : Int) = (n : Int) := by rw [IntKind.wrap_u8]; omega
          have HR := Lib.hid hnl
          have HM := Lib.hid hm
          clear hnl hm
          go_wp2
          go_region
          go_wp2
          go_roundw
          case rel =>
            have hmem : ¬ c.key s k ∈ nub (c.key s) k := by rw [HK.out]; exact HM.out
            have hlen : (nub (c.key s) (k + 1)).length = n + 1 := by rw [nub_new hmem, List.length_append, HR.out]; rfl
            have hidxn : n = (nub (c.key s) (k + 1)).idxOf (c.key s k) := by rw [nub_idx_new _ _ hmem]; exact HR.out.symm
            refine ⟨k + 1, by omega, by go_num, ?_, ?_, ?_, ?_, ?_, ?_⟩
            · exact Lib.hid ((((HS1.out.other' (by dsimp only; omega) _).other' (by dsimp only; omega) _).other' (by dsimp only; omega) _).other' (by dsimp only; omega) _)
            · exact Lib.hid ((((HZ1.out.other (by dsimp only; omega) _).other (by dsimp only; omega) _).other (by dsimp only; omega) _).other (by dsimp only; omega) _)
            · have h := (((HP1.out.other (p := ⟨w.heap.size + 1 + 1 + 1 + 1, x * 2 + 1, none⟩) (by dsimp only; omega) (.bool true)).other (p := ⟨w.heap.size + 1 + 1 + 1 + 1 + 1, x * 2 + 1, none⟩) (by dsimp only; omega) (.int .u8 (n : Nat))).set 256 (.int .i64 ((n + 1 : Nat) : Int))).set k (.int .u8 (n : Nat))
              rw [partTo_n, ← hlen, partTo_step c s k hlt n hidxn, hlen] at h
              exact Lib.hid h
            · have h := HG1.out.set (x * 2 + 1) (.bool true)
              rw [giv_new, ← HK.out, ← nub_new hmem, HK.out] at h
              exact Lib.hid (((h.other (by dsimp only; omega) _).other (by dsimp only; omega) _).other (by dsimp only; omega) _)
            · have h := (HN1.out.other (p := ⟨w.heap.size + 1 + 1 + 1 + 1, x * 2 + 1, none⟩) (by dsimp only; omega) (.bool true)).set (x * 2 + 1) (.int .u8 (n : Nat))
              rw [← HR.out, num_new _ _ HM.out, ← HK.out, ← nub_new hmem, HK.out, HR.out] at h
              exact Lib.hid ((h.other (by dsimp only; omega) _).other (by dsimp only; omega) _)
            · exact Lib.hid (Below.drew ((((HB1.out.setCell (by dsimp only; omega) _).setCell (by dsimp only; omega) _).setCell (by dsimp only; omega) _).setCell (by dsimp only; omega) _))
          case measure => simp [intOf]; omega
    · obtain rfl : k = 256 := by omega
      have hp : wr.heap[w.heap.size + 1 + 1 + 1]? = some (.cells (c.part s).cells 26 (0, 0)) := hP.out
      have HP := Lib.hid hp
      clear hp
      go_wp2_with (first | (refine wpList_load_row rfl 26 _ rfl (w.heap.size + 1 + 1 + 1) rfl 26 (c.part s).cells (0, 0) _ HP.out Tryd.underlying26 rfl (by rw [Cl.size]; kernel_rfl) ?_) | (refine wpList_store_row rfl 26 _ _ rfl (w.heap.size + 1 + 1) (c.part s).cells rfl rfl 26 Cl.zero.cells hZ.out (by rw [Cl.size]; kernel_rfl) (by rw [Cl.size, Cl.size]) (Cl.one' _) ?_))
      exact bodyPost_ret (results_cell_row Tryd.results9 _ _ (w.heap.size + 1 + 1) 26 _ (0, 0) _ rfl (hZ.out.row _) Tryd.underlying26 rfl (by rw [Cl.size]; kernel_rfl)) rfl ⟨rfl, below_row hB.out (by omega) _⟩

end Go.Proofs.YthmppooefajpgaaDoor
