/- What classes.Refine answers: right classes parted by one set more; the zero Classes, of others. -/
import Derived.Test.YthmppooefajpgaaProg
import Derived.Test.YthmppooefajpgaaWords
import Derived.Test.YthmppooefajpgaaCl
import Derived.Test.YthmppooefajpgaaRight
import Derived.Test.YthmppooefajpgaaPart
import Derived.Test.YthmppooefajpgaaMore
namespace Go.Proofs.Ythmppooefajpgaa
open Go.RowKit

def Cl.refine (c : Cl) (s : St) : Cl := if c.right then c.part s else Cl.zero
theorem refine_yes {c : Cl} {s : St} (h : c.right = true) : c.refine s = c.part s := by unfold Cl.refine; rw [h]; rfl
theorem refine_no {c : Cl} {s : St} (h : c.right = false) : c.refine s = Cl.zero := by unfold Cl.refine; rw [h]; rfl

theorem ret_cl {a b : Cl} (h : a = b) : Ending.returned (.agg a.cells) = .returned (.agg b.cells) := by rw [h]

set_option maxRecDepth 100000 in
set_option maxHeartbeats 1000000 in
theorem clRefine (c : Cl) (hc : c.Ok) (s : St) (hs : s.Ok) (w : World) :
    Calls Try.prog 10 #[.agg c.cells, .agg #[.int .u64 s.w0, .int .u64 s.w1, .int .u64 s.w2, .int .u64 s.w3]] w fun e w' => e = .returned (.agg (c.refine s).cells) ∧ Below w.heap.size w w' := by
  have z1 := zero_cl
  obtain ⟨v, hv⟩ : ∃ v : Bool, c.right = v := ⟨_, rfl⟩
  have HV := Lib.hid hv
  clear hv
  go_enter Try.func10, Try.ntmps10
  go_wp2_with (first | (refine wpList_load_row rfl 26 _ rfl w.heap.size rfl 26 c.cells (0, 0) _ (((At.new w 26 c.cells).alloc _).alloc _) Try.underlying26 rfl (by rw [Cl.size]; kernel_rfl) ?_) | fail)
  refine (clRightV c hc v HV.out _).mono ?_
  rintro e w1 ⟨rfl, hb1⟩
  have hC := (((At.new w 26 c.cells).alloc (Obj.cells #[.int .u64 s.w0, .int .u64 s.w1, .int .u64 s.w2, .int .u64 s.w3] 33)).alloc (Obj.cells Cl.zero.cells 26)).step hb1 rfl
  have hS : SetAt w1 (w.heap.size + 1) 33 s := At.step ((at_new' (w.alloc (Obj.cells c.cells 26)) (w.heap.size + 1) 33 (cs := #[.int .u64 s.w0, .int .u64 s.w1, .int .u64 s.w2, .int .u64 s.w3]) (by simp)).alloc (Obj.cells Cl.zero.cells 26)) hb1 rfl
  have hZ : At w1 (w.heap.size + 1 + 1) 26 Cl.zero.cells := At.step (at_new' ((w.alloc (Obj.cells c.cells 26)).alloc (Obj.cells #[.int .u64 s.w0, .int .u64 s.w1, .int .u64 s.w2, .int .u64 s.w3] 33)) (w.heap.size + 1 + 1) 26 (cs := Cl.zero.cells) (by simp)) hb1 rfl
  have hB : Below w.heap.size w w1 := ((((Below.refl _ _).alloc (Nat.le_refl _) (Obj.cells c.cells 26)).alloc (by simp) (Obj.cells #[.int .u64 s.w0, .int .u64 s.w1, .int .u64 s.w2, .int .u64 s.w3] 33)).alloc (by simp; omega) (Obj.cells Cl.zero.cells 26)).trans (hb1.mono (by simp; omega))
  clear hb1
  cases v
  · have HZ := Lib.hid hZ
    have HB := Lib.hid hB
    clear hC hS hZ hB
    go_wp2_with (first | (refine wpList_store_row rfl 26 _ _ rfl (w.heap.size + 1 + 1) Cl.zero.cells rfl rfl 26 Cl.zero.cells HZ.out (by rw [Cl.size]; kernel_rfl) (by rw [Cl.size]) (Cl.one' _) ?_) | fail)
    exact bodyPost_ret (results_cell_row Try.results10 _ _ (w.heap.size + 1 + 1) 26 Cl.zero.cells (0, 0) _ rfl (HZ.out.row _) Try.underlying26 rfl (by rw [Cl.size]; kernel_rfl)) rfl ⟨ret_cl (refine_no HV.out).symm, below_row HB.out (by omega) _⟩
  · have HC := Lib.hid hC
    have HZ := Lib.hid hZ
    have HB := Lib.hid hB
    have HS := Lib.hid hS
    obtain ⟨c0, c1, c2, c3⟩ := hS.cells
    clear hC hS hZ hB
    go_wp2_with (first | (refine wpList_load_row rfl 26 _ rfl w.heap.size rfl 26 c.cells (0, 0) _ HC.out Try.underlying26 rfl (by rw [Cl.size]; kernel_rfl) ?_) | fail)
    refine (clPart c hc s hs _).mono ?_
    rintro e w2 ⟨rfl, hb2⟩
    have HZ2 := Lib.hid (HZ.out.step hb2 rfl)
    have HB2 := Lib.hid (below_step HB.out hb2 rfl rfl rfl rfl)
    clear hb2 c0 c1 c2 c3
    go_wp2_with (first | (refine wpList_store_row rfl 26 _ _ rfl (w.heap.size + 1 + 1) (c.part s).cells rfl rfl 26 Cl.zero.cells HZ2.out (by rw [Cl.size]; kernel_rfl) (by rw [Cl.size, Cl.size]) (Cl.one' _) ?_) | fail)
    exact bodyPost_ret (results_cell_row Try.results10 _ _ (w.heap.size + 1 + 1) 26 (c.part s).cells (0, 0) _ rfl (HZ2.out.row _) Try.underlying26 rfl (by rw [Cl.size]; kernel_rfl)) rfl ⟨ret_cl (refine_yes HV.out).symm, below_row HB2.out (by omega) _⟩
theorem clRefineV (c : Cl) (hc : c.Ok) (s : St) (hs : s.Ok) (X : Cl) (hX : c.refine s = X) (w : World) :
    Calls Try.prog 10 #[.agg c.cells, .agg #[.int .u64 s.w0, .int .u64 s.w1, .int .u64 s.w2, .int .u64 s.w3]] w fun e w' => e = .returned (.agg X.cells) ∧ Below w.heap.size w w' := by
  rw [← hX]; exact clRefine c hc s hs w

end Go.Proofs.Ythmppooefajpgaa
