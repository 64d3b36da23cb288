/- What set.Of answers: the set of the bytes of its list. -/
import Derived.Test.YtdcldhkpmihahaaProg
import Derived.Test.YtdcldhkpmihahaaWords
import Derived.Test.YtdcldhkpmihahaaRefHas
import Derived.Test.YtdcldhkpmihahaaWith
namespace Go.Proofs.Ytdcldhkpmihahaa
open Go.RowKit

def St.zero : St := ⟨0, 0, 0, 0⟩
theorem u64_32 : U64 32 := by unfold U64; omega
theorem u64_zero : U64 0 := by unfold U64; omega
theorem St.zero_ok : St.zero.Ok := ⟨u64_zero, u64_zero, u64_zero, u64_zero⟩
/-- The set of the first k bytes of a list. -/
def St.ofTake (l : List Nat) (k : Nat) : St := (l.take k).foldl St.put St.zero
theorem fold_ok (l : List Nat) : ∀ s : St, s.Ok → (l.foldl St.put s).Ok := by
  induction l with
  | nil => exact fun s h => h
  | cons x r ih => exact fun s h => ih _ (St.put_ok h x)
theorem St.ofTake_ok (l : List Nat) (k : Nat) : (St.ofTake l k).Ok := fold_ok _ _ St.zero_ok
theorem St.ofTake_succ (l : List Nat) (k : Nat) (h : k < l.length) : St.ofTake l (k + 1) = (St.ofTake l k).put l[k] := by
  unfold St.ofTake; rw [List.take_succ_eq_append_getElem h, List.foldl_append]; rfl
theorem St.ofTake_zero (l : List Nat) : St.ofTake l 0 = St.zero := by unfold St.ofTake; simp
theorem St.ofTake_all (l : List Nat) : St.ofTake l l.length = l.foldl St.put St.zero := by unfold St.ofTake; simp

set_option maxHeartbeats 1000000 in
theorem setOf (l : List Nat) (A : Option Addr) (n c : Nat) (w : World) (h : IsBytes w A n l) :
    Calls Try.prog 14 #[.slice A n c] w fun e w' =>
      e = .returned (.agg #[.int .u64 (l.foldl St.put St.zero).w0, .int .u64 (l.foldl St.put St.zero).w1, .int .u64 (l.foldl St.put St.zero).w2, .int .u64 (l.foldl St.put St.zero).w3]) ∧ Below w.heap.size w w' := by
  have HB := Lib.hid h
  have hm := h.2.1
  clear h
  go_enter Try.func14, Try.ntmps14
  go_wp2
  go_loopw [8] (fun i wr => ∃ k : Nat, k ≤ n ∧ i = .int .i64 k ∧ SetAt wr (w.heap.size + 1) 29 (St.ofTake l k) ∧ SetAt wr w.heap.size 29 St.zero ∧ Below w.heap.size w wr) (fun i _ => n - (intOf i).toNat)
  case atStart =>
    refine ⟨0, Nat.zero_le _, rfl, ?_, ?_, ?_⟩
    · rw [St.ofTake_zero]
      have h := At.new (w.alloc (.cells #[.int .u64 0, .int .u64 0, .int .u64 0, .int .u64 0] 29)) 29 #[.int .u64 0, .int .u64 0, .int .u64 0, .int .u64 0]
      simp only [World.size_alloc] at h
      exact h
    · exact (At.new _ _ _).alloc _
    · exact ((Below.refl _ _).alloc (Nat.le_refl _) _).alloc (by simp) _
  case round =>
    obtain ⟨k, hk, rfl, hs, hz, hB⟩ := hrel
    by_cases hlt : k < n
    · have hl : k < l.length := by have := HB.out.1; omega
      obtain ⟨b, off, rfl, hb, hc⟩ := HB.out.2.2.2 (by omega)
      have hcell := (bcell hB).1 b (off + k) hb
      rw [hc k hl] at hcell
      obtain ⟨c0, c1, c2, c3⟩ := hs.cells
      have hbl := HB.out.2.2.1 k hl
      have HS := Lib.hid hs
      have HZ := Lib.hid hz
      have HP := Lib.hid (St.ofTake_succ l k hl)
      clear hs hz hc hb
      obtain ⟨x, hx⟩ : ∃ x : Nat, x = l[k] := ⟨_, rfl⟩
      rw [← hx] at hcell hbl
      have HX := Lib.hid hx
      clear hx
      go_wp2_with fail
      refine (setWith (St.ofTake l k) (St.ofTake_ok l k) x hbl _).mono ?_
      rintro e w1 ⟨rfl, hb1⟩
      have HS1 := Lib.hid (HS.out.next hb1)
      have HZ1 := Lib.hid (HZ.out.next hb1)
      obtain ⟨d0, d1, d2, d3⟩ := HS1.out.cells
      obtain ⟨f0, f1, f2, f3⟩ := HS1.out.frees
      have hB1 := hB.trans (hb1.mono hB.size)
      clear hcell c0 c1 c2 c3
      go_wp2_with fail
      exact ⟨⟨k + 1, by omega, by go_num, by rw [HP.out, ← HX.out]; exact HS1.out.store _, HZ1.out.other (by omega) _, below_store hB1 (Nat.le_succ _) _⟩, by simp [intOf]; omega⟩
    · have hkl : k = n := by omega
      subst hkl
      have he := HB.out.1
      rw [he, St.ofTake_all] at hs
      clear he
      obtain ⟨d0, d1, d2, d3⟩ := hs.cells
      obtain ⟨f0, f1, f2, f3⟩ := hz.frees
      obtain ⟨e0, e1, e2, e3⟩ := hz.cells
      have HS := Lib.hid hs
      have HZ := Lib.hid hz
      clear hs hz
      go_wp2
      exact bodyPost_ret (results_cell_row Try.results14 _ _ w.heap.size 29 _ (0, 0) _ rfl (HZ.out.store _) Try.underlying29 rfl (by kernel_rfl)) rfl ⟨rfl, below_store hB (Nat.le_refl _) _⟩

end Go.Proofs.Ytdcldhkpmihahaa
