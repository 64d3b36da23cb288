/- What set.Of answers: the set of the bytes of its list; and that the program answers at all (awake). -/
import Derived.Test.YtdcmalfjciekoaaDoorProg
import Derived.Test.YtdcmalfjciekoaaDoorWords
import Derived.Test.YtdcmalfjciekoaaDoorHas
import Derived.Test.YtdcmalfjciekoaaDoorWith
namespace Go.Proofs.YtdcmalfjciekoaaDoor
open Go.RowKit

def St.zero : St := ⟨0, 0, 0, 0⟩
theorem u64_32 : U64 32 := by unfold U64; omega
theorem u64_zero : U64 0 := by unfold U64; omega
theorem St.zero_ok : St.zero.Ok := ⟨u64_zero, u64_zero, u64_zero, u64_zero⟩
/-- The set of the first k bytes of a list. -/
def St.ofTake (l : List Nat) (k : Nat) : St := (l.take k).foldl St.put St.zero
theorem fold_ok (l : List Nat) : ∀ s : St, s.Ok → (l.foldl St.put s).Ok := by
  induction l with
  | nil => exact fun s h => h
  | cons x r ih => exact fun s h => ih _ (St.put_ok h x)
theorem St.ofTake_ok (l : List Nat) (k : Nat) : (St.ofTake l k).Ok := fold_ok _ _ St.zero_ok
theorem St.ofTake_succ (l : List Nat) (k : Nat) (h : k < l.length) : St.ofTake l (k + 1) = (St.ofTake l k).put l[k] := by
  unfold St.ofTake; rw [List.take_succ_eq_append_getElem h, List.foldl_append]; rfl
theorem St.ofTake_zero (l : List Nat) : St.ofTake l 0 = St.zero := by unfold St.ofTake; simp
theorem St.ofTake_all (l : List Nat) : St.ofTake l l.length = l.foldl St.put St.zero := by unfold St.ofTake; simp

set_option maxHeartbeats 1000000 in
theorem setOf (l : List Nat) (A : Option Addr) (n c : Nat) (w : World) (h : IsBytes w A n l) :
    Calls Tryd.prog 11 #[.slice A n c] w fun e w' =>
      e = .returned (.agg #[.int .u64 (l.foldl St.put St.zero).w0, .int .u64 (l.foldl St.put St.zero).w1, .int .u64 (l.foldl St.put St.zero).w2, .int .u64 (l.foldl St.put St.zero).w3]) ∧ Below w.heap.size w w' := by
  have HB := Lib.hid h
  have hm := h.2.1
  clear h
  go_enter Tryd.func11, Tryd.ntmps11
  go_wp2
  go_loopw [8] (fun i wr => ∃ k : Nat, k ≤ n ∧ i = .int .i64 k ∧ SetAt wr (w.heap.size + 1) 24 (St.ofTake l k) ∧ SetAt wr w.heap.size 24 St.zero ∧ Below w.heap.size w wr) (fun i _ => n - (intOf i).toNat)
  case atStart =>
    refine ⟨0, Nat.zero_le _, rfl, ?_, ?_, ?_⟩
    · rw [St.ofTake_zero]
      have h := At.new (w.alloc (.cells #[.int .u64 0, .int .u64 0, .int .u64 0, .int .u64 0] 24)) 24 #[.int .u64 0, .int .u64 0, .int .u64 0, .int .u64 0]
      simp only [World.size_alloc] at h
      exact h
    · exact (At.new _ _ _).alloc _
    · exact ((Below.refl _ _).alloc (Nat.le_refl _) _).alloc (by simp) _
  case round =>
    obtain ⟨k, hk, rfl, hs, hz, hB⟩ := hrel
    by_cases hlt : k < n
    · have hl : k < l.length := by have := HB.out.1; omega
      obtain ⟨b, off, rfl, hb, hc⟩ := HB.out.2.2.2 (by omega)
      have hcell := (bcell hB).1 b (off + k) hb
      rw [hc k hl] at hcell
      obtain ⟨c0, c1, c2, c3⟩ := hs.cells
      have hbl := HB.out.2.2.1 k hl
      have HS := Lib.hid hs
      have HZ := Lib.hid hz
      have HP := Lib.hid (St.ofTake_succ l k hl)
      clear hs hz hc hb
      obtain ⟨x, hx⟩ : ∃ x : Nat, x = l[k] := ⟨_, rfl⟩
      rw [← hx] at hcell hbl
      have HX := Lib.hid hx
      clear hx
      go_wp2_with fail
      refine (setWith (St.ofTake l k) (St.ofTake_ok l k) x hbl _).mono ?_
      rintro e w1 ⟨rfl, hb1⟩
      have HS1 := Lib.hid (HS.out.next hb1)
      have HZ1 := Lib.hid (HZ.out.next hb1)
      obtain ⟨d0, d1, d2, d3⟩ := HS1.out.cells
      obtain ⟨f0, f1, f2, f3⟩ := HS1.out.frees
      have hB1 := hB.trans (hb1.mono hB.size)
      clear hcell c0 c1 c2 c3
      go_wp2_with fail
      exact ⟨⟨k + 1, by omega, by go_num, by rw [HP.out, ← HX.out]; exact HS1.out.store _, HZ1.out.other (by omega) _, below_store hB1 (Nat.le_succ _) _⟩, by simp [intOf]; omega⟩
    · have hkl : k = n := by omega
      subst hkl
      have he := HB.out.1
      rw [he, St.ofTake_all] at hs
      clear he
      obtain ⟨d0, d1, d2, d3⟩ := hs.cells
      obtain ⟨f0, f1, f2, f3⟩ := hz.frees
      obtain ⟨e0, e1, e2, e3⟩ := hz.cells
      have HS := Lib.hid hs
      have HZ := Lib.hid hz
      clear hs hz
      go_wp2
      exact bodyPost_ret (results_cell_row Tryd.results11 _ _ w.heap.size 24 _ (0, 0) _ rfl (HZ.out.store _) Tryd.underlying24 rfl (by kernel_rfl)) rfl ⟨rfl, below_store hB (Nat.le_refl _) _⟩

theorem setEq (w : World) (s t : St) (v : Bool) (h : s.eqb t = v) :
    (Op.equalIn 10000 24 (.agg #[.int .u64 s.w0, .int .u64 s.w1, .int .u64 s.w2, .int .u64 s.w3]) (.agg #[.int .u64 t.w0, .int .u64 t.w1, .int .u64 t.w2, .int .u64 t.w3])).run Tryd.prog w = .ok v w := by
  rw [← h]
  exact run_set_eq (d := 9998) Tryd.underlying24 (by kernel_rfl) Tryd.underlying22 (by kernel_rfl) w s t
theorem of_five : ([5] : List Nat).foldl St.put St.zero = ⟨32, 0, 0, 0⟩ := rfl
set_option maxHeartbeats 1000000 in
theorem awakeYes (w : World) :
    Calls Tryd.prog 4 #[] w fun e w' => e = .returned (.bool true) ∧ Below w.heap.size w w' := by
  go_enter Tryd.func4, Tryd.ntmps4
  go_wp2_with fail
  refine (setOf [5] _ 1 1 _ ⟨rfl, by omega, by simp, fun _ => ⟨w.heap.size, 0, rfl, by simp, by intro k hk; simp at hk; subst hk; exact (At.new w 5 #[.int .u8 5]).cell 0⟩⟩).mono ?_
  rintro e w1 ⟨rfl, hb1⟩
  rw [of_five]
  go_wp2_with fail
  refine (setHas ⟨32, 0, 0, 0⟩ ⟨u64_32, u64_zero, u64_zero, u64_zero⟩ 5 (by omega) _).mono ?_
  rintro e w2 ⟨rfl, hb2⟩
  rw [show St.has ⟨32, 0, 0, 0⟩ 5 = true from by decide]
  go_wp2
  go_ret
  have h1 : Below w.heap.size w w1 := ((Below.refl _ _).alloc (Nat.le_refl _) _).trans (hb1.mono (by simp))
  exact ⟨rfl, h1.trans (hb2.mono h1.size)⟩

end Go.Proofs.YtdcmalfjciekoaaDoor
