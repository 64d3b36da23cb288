/- The law LexreReads answers true. -/
import Derived.Test.YtdcldhkpmihahaaWordRow
namespace Go.Proofs.Ytdcldhkpmihahaa
open Go.RowKit
set_option linter.unusedSimpArgs false
set_option linter.unusedVariables false

theorem neq_false (x : Int) : (x != x) = false := by simp
set_option maxRecDepth 100000 in
set_option maxHeartbeats 4000000 in
theorem lawReads (s : ByteArray) (w : World) : Calls Try.prog 3 #[.string s] w fun e w' => e = .returned (.bool true) ∧ Below w.heap.size w w' := by
  by_cases hbig : 11000 < s.size
  · have d0 : decide ((11000 : Int) < (s.size : Int)) = true := txt_t (by omega)
    go_enter Try.func3, Try.ntmps3
    go_wp2_with fail
    refine (lawAwake _).mono ?_
    rintro e w1 ⟨rfl, hb1⟩
    have HB1 := Lib.hid hb1
    clear hb1
    go_wp2_with fail
    refine (lawAwake _).mono ?_
    rintro e w2 ⟨rfl, hb2⟩
    have HB2 := Lib.hid (HB1.out.trans (hb2.mono HB1.out.size))
    clear hb2
    go_wp2_with fail
    go_ret
    exact ⟨rfl, HB2.out⟩
  · have d0 : decide ((11000 : Int) < (s.size : Int)) = false := txt_f (by omega)
    go_enter Try.func3, Try.ntmps3
    go_wp2_with fail
    refine (lawAwake _).mono ?_
    rintro e w1 ⟨rfl, hb1⟩
    have HB1 := Lib.hid hb1
    clear hb1
    go_wp2_with fail
    refine (lexWords s (by omega) _).mono ?_
    rintro e w2 ⟨v, l, p, q, hS, rfl, hW, hb2⟩
    obtain ⟨A, cap, rfl⟩ := hW.len
    have HW := Lib.hid hW
    have HS := Lib.hid hS
    have HB2 := Lib.hid (HB1.out.trans (hb2.mono HB1.out.size))
    clear hW hS hb2
    go_wp2_with fail
    refine (refWords s (by omega) _).mono ?_
    rintro e w3 ⟨v', l', p', q', hS', rfl, hW', hb3⟩
    have hSS := HS.out.symm.trans hS'
    injection hSS with e1 e2
    injection e2 with e2 e3
    obtain rfl : l' = l := e1.symm
    obtain rfl : p' = p := e2.symm
    obtain rfl : q' = q := e3.symm
    obtain ⟨A', cap', rfl⟩ := hW'.len
    have HW2 := Lib.hid (HW.out.next hb3)
    have HW' := Lib.hid hW'
    have HB3 := Lib.hid (HB2.out.trans (hb3.mono HB2.out.size))
    have hmx := HW2.out.max
    have n1 := neq_false q'
    have n2 := neq_false p'
    clear hW' hS' hb3
    go_wp2_with fail
    clear n1 n2
    go_loopw [47] (fun i wr => ∃ (k n : Nat), k ≤ l'.length ∧ i = .int .i64 k ∧ wr = w3.drewN n) (fun i _ => l'.length - (intOf i).toNat)
    case atStart => exact ⟨0, 0, Nat.zero_le _, rfl, rfl⟩
    case round =>
      obtain ⟨k, n, hk, rfl, rfl⟩ := hrel
      by_cases hlt : k < l'.length
      · obtain ⟨g, rfl, _, _, hc⟩ := HW2.out.at k hlt
        obtain ⟨g', rfl, _, _, hc'⟩ := HW'.out.at k hlt
        obtain ⟨x, hx⟩ : ∃ x, l'[k].1 = x := ⟨_, rfl⟩
        obtain ⟨m, hm⟩ : ∃ m, l'[k].2 = m := ⟨_, rfl⟩
        rw [hx, hm] at hc hc'
        clear hx hm
        obtain ⟨c0, c1, c2, c3, c4, c5, c6, c7, c8⟩ := hc
        obtain ⟨b0, b1, b2, b3, b4, b5, b6, b7, b8⟩ := hc'
        have hq := fun W => wdEq W x m
        go_wp2_with fail
        go_quiet (fail)
        go_wp2_with fail
        exact ⟨⟨k + 1, n + nq, by omega, by go_num, by simp⟩, by simp [intOf]; omega⟩
      · obtain rfl : k = l'.length := by omega
        go_wp2_with fail
        go_ret
        exact ⟨rfl, HB3.out.trans (below_drew (Below.refl _ _) n)⟩
end Go.Proofs.Ytdcldhkpmihahaa
