/- What the reference's Blank and One answer. -/
import Derived.Test.YtoicbahkoejhjaaProg
import Derived.Test.YtoicbahkoejhjaaWords
import Derived.Test.YtoicbahkoejhjaaCl
import Derived.Test.YtoicbahkoejhjaaRow
import Derived.Test.YtoicbahkoejhjaaTable
import Derived.Deep.OwnRows
namespace Go.Proofs.Ytoicbahkoejhjaa
open Go.RowKit

theorem info_row : (Try.prog.info? 50).map (fun i => (i.zero, i.size, i.bytes)) = some (some (.slice none 0 0), 1, 24) := by kernel_rfl
theorem info_bool : (Try.prog.info? 4).map (fun i => (i.zero, i.size, i.bytes)) = some (some (.bool false), 1, 1) := by kernel_rfl
theorem make_tab (n : Nat) (hn : n ≤ 1000) (w : World) : (Instr.makeSlice 47 (.int .i64 (n : Int)) (.int .i64 (n : Int))).run Try.prog w = .ok (.slice (some ⟨w.heap.size, 0, none⟩) n n) (w.alloc (.cells (someRows (fun i => w.heap.size + 1 + i) n 0) 50)) := by
  rw [someRows_zero]
  exact run_make_row' 47 50 (.slice none 0 0) 24 Try.underlying47 info_row rfl .i64 .i64 n (by omega) (by omega) w
theorem make_row (n : Nat) (hn : n ≤ 1000) (w : World) : (Instr.makeSlice 50 (.int .i64 (n : Int)) (.int .i64 (n : Int))).run Try.prog w = .ok (.slice (some ⟨w.heap.size, 0, none⟩) n n) (w.alloc (.cells (boolRow (fun _ => false) n) 4)) := by
  rw [boolRow_zero]
  exact run_make_row' 50 4 (.bool false) 1 Try.underlying50 info_bool rfl .i64 .i64 n (by omega) (by omega) w

set_option maxRecDepth 100000 in
set_option maxHeartbeats 2000000 in
theorem refBlank (n : Nat) (hn : n ≤ 1000) (w : World) :
    Calls Try.prog 28 #[.int .i64 n] w fun e w' => e = .returned (.slice (some ⟨w.heap.size, 0, none⟩) n n) ∧ TabAt w' 50 4 w.heap.size w.heap.size n (fun i => w.heap.size + 1 + i) (fun _ _ => false) ∧ Below w.heap.size w w' := by
  have hm1 := make_tab n hn
  have hm2 := make_row n hn
  go_enter Try.func28, Try.ntmps28
  go_wp2_with fail
  clear hm1
  go_loopw [9] (fun i wr => ∃ k : Nat, k ≤ n ∧ i = .int .i64 k ∧ wr.heap.size = w.heap.size + 1 + k ∧ Hid (At wr w.heap.size 50 (someRows (fun i => w.heap.size + 1 + i) n k)) ∧ Hid (∀ i, i < k → At wr (w.heap.size + 1 + i) 4 (boolRow (fun _ => false) n)) ∧ Hid (Below w.heap.size w wr)) (fun i _ => n - (intOf i).toNat)
  case atStart => exact ⟨0, Nat.zero_le _, rfl, by simp, Lib.hid (At.new _ _ _), Lib.hid (fun i hi => absurd hi (Nat.not_lt_zero _)), Lib.hid ((Below.refl _ _).alloc (Nat.le_refl _) _)⟩
  case round =>
    obtain ⟨k, hk, rfl, hsz, hT, hR, hB⟩ := hrel
    by_cases hlt : k < n
    · have hcell := hT.out.cell k
      unfold someRows at hcell
      rw [arr_get _ _ k hlt, if_neg (Nat.lt_irrefl k)] at hcell
      have hfree := hT.out.free k
      have hgl := hT.out.lt
      have HSz := Lib.hid hsz
      clear hsz
      have hkz : (0 : Int) ≤ (k : Int) := by omega
      have hkn : (k : Int) < (n : Int) := by omega
      go_wp2_with fail
      refine ⟨⟨k + 1, by omega, by go_num, ?_, ?_, ?_, ?_⟩, by simp [intOf]; omega⟩
      · have := HSz.out; simp; omega
      · have h := (hT.out.set k (.slice (some ⟨wr.heap.size, 0, none⟩) n n)).alloc (.cells (boolRow (fun _ => false) n) 4)
        rw [show wr.heap.size = (fun i => w.heap.size + 1 + i) k from HSz.out, someRows_set] at h
        have e : wr.heap.size = w.heap.size + 1 + k := HSz.out
        rw [e]; exact Lib.hid h
      · refine Lib.hid (fun i hi => ?_)
        by_cases e : i = k
        · subst e
          exact at_new' _ _ _ (by have := HSz.out; simp; omega)
        · exact ((hR.out i (by omega)).other (by dsimp only; omega) _).alloc _
      · exact Lib.hid ((hB.out.setCell (by dsimp only; omega) _).alloc (by have := hB.out.size; simp; omega) _)
    · obtain rfl : k = n := by omega
      have ht := hT.out
      rw [someRows_all] at ht
      have HT := Lib.hid ht
      clear ht hsz
      go_wp2_with fail
      go_ret
      exact ⟨rfl, ⟨HT.out, Nat.le_refl _, fun i hi => hR.out i hi, fun i hi => ⟨by omega, by omega⟩, fun i j _ _ h => by omega⟩, hB.out⟩
/-- A new table says f. -/
def Tabled (w : World) (n : Nat) (f : Nat → Nat → Bool) (e : Ending) (w' : World) : Prop := ∃ g r, e = .returned (.slice (some ⟨g, 0, none⟩) n n) ∧ TabAt w' 50 4 w.heap.size g n r f ∧ Below w.heap.size w w'
abbrev TIn (w : World) (g n : Nat) (f : Nat → Nat → Bool) : Prop := TabIn w 50 4 g n f

end Go.Proofs.Ytoicbahkoejhjaa
