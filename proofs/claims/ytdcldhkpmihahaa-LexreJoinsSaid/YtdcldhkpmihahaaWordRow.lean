/- A row of words, read; the law's awake. -/
import Derived.Test.YtdcldhkpmihahaaWordsRef
import Derived.Test.YtdcldhkpmihahaaWordsLex
import Derived.Test.YtdcldhkpmihahaaWdEq
import Derived.Deep.QuietTactic
import Derived.BigQuiet
namespace Go.Proofs.Ytdcldhkpmihahaa
open Go.RowKit
set_option linter.unusedSimpArgs false
set_option linter.unusedVariables false

theorem wl_at (l : List (Wd × Nat)) : ∀ (j i : Nat) (h : j < l.length), i < 9 → (wl l)[j * 9 + i]? = (wdCells l[j].1 l[j].2)[i]? := by
  unfold wl
  induction l with
  | nil => intro j i h; exact absurd h (Nat.not_lt_zero _)
  | cons t r ih =>
    intro j i h hi
    have hl : (wdCells t.1 t.2).toList.length = 9 := rfl
    rw [List.flatMap_cons]
    cases j with
    | zero => rw [Nat.zero_mul, Nat.zero_add, List.getElem?_append_left (by rw [hl]; exact hi)]; exact Array.getElem?_toList
    | succ j =>
      rw [List.getElem?_append_right (by rw [hl]; omega), hl, show (j + 1) * 9 + i - 9 = j * 9 + i by omega, ih j i (by simpa using h) hi]
      rfl
/-- The nine cells of a word within a row. -/
def WdCs (w : World) (g o : Nat) (x : Wd) (p : Int) : Prop :=
  w.cell? ⟨g, o, none⟩ = some (.int .i64 x.kind) ∧ w.cell? ⟨g, o + 1, none⟩ = some (.int .i64 p) ∧ w.cell? ⟨g, o + 2, none⟩ = some (.int .u64 x.set.w0) ∧ w.cell? ⟨g, o + 3, none⟩ = some (.int .u64 x.set.w1) ∧ w.cell? ⟨g, o + 4, none⟩ = some (.int .u64 x.set.w2) ∧ w.cell? ⟨g, o + 5, none⟩ = some (.int .u64 x.set.w3) ∧ w.cell? ⟨g, o + 6, none⟩ = some (.string x.name) ∧ w.cell? ⟨g, o + 7, none⟩ = some (.int .i64 x.lo) ∧ w.cell? ⟨g, o + 8, none⟩ = some (.int .i64 x.hi)
theorem Wds.at {w : World} {base cap : Nat} {A : Option Addr} {l : List (Wd × Nat)} (h : Wds w base (.slice A l.length cap) l) (k : Nat) (hk : k < l.length) :
    ∃ g, A = some ⟨g, 0, none⟩ ∧ base ≤ g ∧ g < w.heap.size ∧ WdCs w g (k * 9) l[k].1 l[k].2 := by
  rcases h.2 with ⟨hv, h0⟩ | ⟨g, cap', cur, hv, hb, hg, _⟩
  · omega
  · injection hv with e1 e2 e3
    subst e1
    refine ⟨g, rfl, hb, (Array.getElem?_eq_some_iff.1 hg).1, ?_⟩
    have key : ∀ i, i < 9 → w.cell? ⟨g, k * 9 + i, none⟩ = (wdCells l[k].1 l[k].2)[i]? := fun i hi => by
      rw [World.ownsRow.cellAt h (k * 9 + i) (by omega), wl_at l k i hk hi]
    exact ⟨key 0 (by omega), key 1 (by omega), key 2 (by omega), key 3 (by omega), key 4 (by omega), key 5 (by omega), key 6 (by omega), key 7 (by omega), key 8 (by omega)⟩
theorem Wds.max {w : World} {base : Nat} {v : Value} {l : List (Wd × Nat)} (h : Wds w base v l) : l.length ≤ 9223372036854775807 := by
  rcases h.2 with ⟨_, h0⟩ | ⟨g, cap, cur, _, _, _, hc, hm, _⟩
  · rw [h0]; exact Nat.zero_le _
  · unfold maxLen at hm; omega
def aStar : ByteArray := { data := #[97, 42] }
theorem words_astar : wordsS aStar = ([(setW (St.zero.put 97), 0), (kindW 7, 1)], 0, 0) := by kernel_rfl

set_option maxRecDepth 100000 in
set_option maxHeartbeats 1000000 in
theorem lawAwake (w : World) : Calls Try.prog 5 #[] w fun e w' => e = .returned (.bool true) ∧ Below w.heap.size w w' := by
  go_enter Try.func5, Try.ntmps5
  go_wp2_with fail
  refine (lexWords aStar (by decide) _).mono ?_
  rintro e w1 ⟨v, l, p, q, hS, rfl, hW, hB⟩
  rw [words_astar] at hS
  injection hS with e1 e2
  injection e2 with e2 e3
  subst e1 e2 e3
  obtain ⟨A, cap, rfl⟩ := hW.len
  obtain ⟨g, rfl, _, _, hc⟩ := hW.at 1 (by decide)
  have c0 : w1.cell? ⟨g, 9, none⟩ = some (.int .i64 7) := hc.1
  have HB := Lib.hid hB
  clear hc hW hB
  go_wp2_with fail
  go_ret
  exact ⟨rfl, HB.out⟩
end Go.Proofs.Ytdcldhkpmihahaa
