/- What set.with answers: the set and one byte more. -/
import Derived.Test.YtdcldhkpmihahaaProg
import Derived.Test.YtdcldhkpmihahaaWords
namespace Go.Proofs.Ytdcldhkpmihahaa
open Go.RowKit

set_option maxHeartbeats 1000000 in
theorem setWith (s : St) (hs : s.Ok) (b : Nat) (hb : b < 256) (w : World) :
    Calls Try.prog 28 #[.agg #[.int .u64 s.w0, .int .u64 s.w1, .int .u64 s.w2, .int .u64 s.w3], .int .u8 b] w fun e w' =>
      e = .returned (.agg #[.int .u64 (s.put b).w0, .int .u64 (s.put b).w1, .int .u64 (s.put b).w2, .int .u64 (s.put b).w3]) ∧ Below w.heap.size w w' := by
  obtain ⟨r, hr⟩ : ∃ r : Nat, r = b % 64 := ⟨_, rfl⟩
  have hm : (b : Int) % 64 = r := by omega
  have hq : b / 64 = 0 ∨ b / 64 = 1 ∨ b / 64 = 2 ∨ b / 64 = 3 := by omega
  have hr' : r < 64 := by omega
  have hS := shl_pw r hr'
  rcases hq with hq | hq | hq | hq
  · have hd : (b : Int) / 64 = 0 := by omega
    have HR := Lib.hid (put_at0 s b r hq hr)
    have hb0 := bits_or s.w0 (pw r) hs.o0 (pw_u64 r hr')
    clear hr hq
    go_enter Try.func28, Try.ntmps28
    go_wp2
    rw [HR.out]
    refine bodyPost_ret (v := .agg #[.int .u64 (s.w0 ||| pw r : Nat), .int .u64 s.w1, .int .u64 s.w2, .int .u64 s.w3]) (by simp [results, Try.results28, go_sem]) rfl ⟨rfl, ?_⟩
    repeat (first | exact Below.refl _ _ | refine Below.drew ?_ | refine Below.alloc ?_ (by simp; try omega) _)
  · have hd : (b : Int) / 64 = 1 := by omega
    have HR := Lib.hid (put_at1 s b r hq hr)
    have hb1 := bits_or s.w1 (pw r) hs.o1 (pw_u64 r hr')
    clear hr hq
    go_enter Try.func28, Try.ntmps28
    go_wp2
    rw [HR.out]
    refine bodyPost_ret (v := .agg #[.int .u64 s.w0, .int .u64 (s.w1 ||| pw r : Nat), .int .u64 s.w2, .int .u64 s.w3]) (by simp [results, Try.results28, go_sem]) rfl ⟨rfl, ?_⟩
    repeat (first | exact Below.refl _ _ | refine Below.drew ?_ | refine Below.alloc ?_ (by simp; try omega) _)
  · have hd : (b : Int) / 64 = 2 := by omega
    have HR := Lib.hid (put_at2 s b r hq hr)
    have hb2 := bits_or s.w2 (pw r) hs.o2 (pw_u64 r hr')
    clear hr hq
    go_enter Try.func28, Try.ntmps28
    go_wp2
    rw [HR.out]
    refine bodyPost_ret (v := .agg #[.int .u64 s.w0, .int .u64 s.w1, .int .u64 (s.w2 ||| pw r : Nat), .int .u64 s.w3]) (by simp [results, Try.results28, go_sem]) rfl ⟨rfl, ?_⟩
    repeat (first | exact Below.refl _ _ | refine Below.drew ?_ | refine Below.alloc ?_ (by simp; try omega) _)
  · have hd : (b : Int) / 64 = 3 := by omega
    have HR := Lib.hid (put_at3 s b r hq hr)
    have hb3 := bits_or s.w3 (pw r) hs.o3 (pw_u64 r hr')
    clear hr hq
    go_enter Try.func28, Try.ntmps28
    go_wp2
    rw [HR.out]
    refine bodyPost_ret (v := .agg #[.int .u64 s.w0, .int .u64 s.w1, .int .u64 s.w2, .int .u64 (s.w3 ||| pw r : Nat)]) (by simp [results, Try.results28, go_sem]) rfl ⟨rfl, ?_⟩
    repeat (first | exact Below.refl _ _ | refine Below.drew ?_ | refine Below.alloc ?_ (by simp; try omega) _)

end Go.Proofs.Ytdcldhkpmihahaa
