/- What set.Range answers: all bytes from the one to the other. -/
import Derived.Test.YtdcldhkpmihahaaProg
import Derived.Test.YtdcldhkpmihahaaWords
import Derived.Test.YtdcldhkpmihahaaRefHas
import Derived.Test.YtdcldhkpmihahaaWith
import Derived.Test.YtdcldhkpmihahaaSetOf
namespace Go.Proofs.Ytdcldhkpmihahaa
open Go.RowKit

/-- The bytes lo to lo + n - 1. -/
def St.run (lo : Nat) : Nat → St
  | 0 => St.zero
  | n + 1 => (St.run lo n).put (lo + n)
theorem St.run_ok (lo n : Nat) : (St.run lo n).Ok := by
  induction n with
  | zero => exact St.zero_ok
  | succ n ih => exact St.put_ok ih _

set_option maxHeartbeats 1000000 in
theorem setRange (lo hi : Nat) (hlo : lo < 256) (hhi : hi < 256) (w : World) :
    Calls Try.prog 44 #[.int .u8 lo, .int .u8 hi] w fun e w' =>
      e = .returned (.agg #[.int .u64 (St.run lo (hi + 1 - lo)).w0, .int .u64 (St.run lo (hi + 1 - lo)).w1, .int .u64 (St.run lo (hi + 1 - lo)).w2, .int .u64 (St.run lo (hi + 1 - lo)).w3]) ∧ Below w.heap.size w w' := by
  have hl8 : IntKind.i64.wrap (lo : Int) = (lo : Int) := by rw [IntKind.wrap_i64]; omega
  have hh8 : IntKind.i64.wrap (hi : Int) = (hi : Int) := by rw [IntKind.wrap_i64]; omega
  go_enter Try.func44, Try.ntmps44
  go_wp2
  go_loopw [6] (fun i wr => ∃ n : Nat, n ≤ hi + 1 - lo ∧ i = .int .i64 ((lo + n : Nat) : Int) ∧ SetAt wr (w.heap.size + 1) 29 (St.run lo n) ∧ SetAt wr w.heap.size 29 St.zero ∧ Below w.heap.size w wr) (fun i _ => 600 - (intOf i).toNat)
  case atStart =>
    refine ⟨0, Nat.zero_le _, by simp, ?_, ?_, ?_⟩
    · have h := SetAt.new (w.alloc (.cells #[.int .u64 0, .int .u64 0, .int .u64 0, .int .u64 0] 29)) 29 St.zero
      simp only [World.size_alloc] at h
      exact h
    · exact (SetAt.new _ _ St.zero).alloc _
    · exact ((Below.refl _ _).alloc (Nat.le_refl _) _).alloc (by simp) _
  case round =>
    obtain ⟨n, hn, rfl, hs, hz, hB⟩ := hrel
    obtain ⟨x, hx⟩ : ∃ x : Nat, x = lo + n := ⟨_, rfl⟩
    rw [← hx]
    have HX := Lib.hid hx
    by_cases hlt : n < hi + 1 - lo
    · have hx256 : x < 256 := by omega
      have hxhi : x ≤ hi := by omega
      have hw8 : IntKind.u8.wrap (x : Int) = (x : Int) := by rw [IntKind.wrap_u8']; omega
      clear hx
      obtain ⟨c0, c1, c2, c3⟩ := hs.cells
      have HS := Lib.hid hs
      have HZ := Lib.hid hz
      clear hs hz
      go_wp2_with fail
      refine (setWith (St.run lo n) (St.run_ok lo n) x hx256 _).mono ?_
      rintro e w1 ⟨rfl, hb1⟩
      have HS1 := Lib.hid (HS.out.next hb1)
      have HZ1 := Lib.hid (HZ.out.next hb1)
      obtain ⟨d0, d1, d2, d3⟩ := HS1.out.cells
      obtain ⟨f0, f1, f2, f3⟩ := HS1.out.frees
      have hB1 := hB.trans (hb1.mono hB.size)
      clear c0 c1 c2 c3
      go_wp2_with fail
      exact ⟨⟨n + 1, by omega, by rw [show ((lo + (n + 1) : Nat) : Int) = (x : Int) + 1 from by have := HX.out; omega], by show SetAt _ _ _ ((St.run lo n).put (lo + n)); rw [← HX.out]; exact HS1.out.store _, HZ1.out.other (by omega) _, below_store hB1 (Nat.le_succ _) _⟩, by simp [intOf]; omega⟩
    · have hxhi : hi < x := by omega
      have hnn : n = hi + 1 - lo := by omega
      clear hx
      obtain ⟨d0, d1, d2, d3⟩ := hs.cells
      obtain ⟨f0, f1, f2, f3⟩ := hz.frees
      obtain ⟨e0, e1, e2, e3⟩ := hz.cells
      have HS := Lib.hid hs
      have HZ := Lib.hid hz
      have HN := Lib.hid hnn
      clear hs hz hnn
      go_wp2
      exact bodyPost_ret (results_cell_row Try.results44 _ _ w.heap.size 29 _ (0, 0) _ rfl (HZ.out.store _) Try.underlying29 rfl (by kernel_rfl)) rfl ⟨by rw [← HN.out], below_store hB (Nat.le_refl _) _⟩

end Go.Proofs.Ytdcldhkpmihahaa
