/- A word in a block of memory, and what the program's braces answers. -/
import Derived.Test.YtdcldhkpmihahaaRefBraces
import Derived.Test.YtdcldhkpmihahaaClone
namespace Go.Proofs.Ytdcldhkpmihahaa
open Go.RowKit
set_option linter.unusedSimpArgs false
set_option linter.unusedVariables false

/-- A word lies in block g. -/
def WdAt (w : World) (g : Nat) (x : Wd) (p : Int) : Prop := At w g 31 (wdCells x p)
theorem WdAt.cells {w : World} {g : Nat} {x : Wd} {p : Int} (h : WdAt w g x p) :
    w.cell? ⟨g, 0, none⟩ = some (.int .i64 x.kind) ∧ w.cell? ⟨g, 1, none⟩ = some (.int .i64 p) ∧ w.cell? ⟨g, 2, none⟩ = some (.int .u64 x.set.w0) ∧ w.cell? ⟨g, 3, none⟩ = some (.int .u64 x.set.w1) ∧ w.cell? ⟨g, 4, none⟩ = some (.int .u64 x.set.w2) ∧ w.cell? ⟨g, 5, none⟩ = some (.int .u64 x.set.w3) ∧ w.cell? ⟨g, 6, none⟩ = some (.string x.name) ∧ w.cell? ⟨g, 7, none⟩ = some (.int .i64 x.lo) ∧ w.cell? ⟨g, 8, none⟩ = some (.int .i64 x.hi) :=
  ⟨At.cell h 0, At.cell h 1, At.cell h 2, At.cell h 3, At.cell h 4, At.cell h 5, At.cell h 6, At.cell h 7, At.cell h 8⟩
theorem WdAt.frees {w : World} {g : Nat} {x : Wd} {p : Int} (h : WdAt w g x p) :
    w.frozen? ⟨g, 0, none⟩ = false ∧ w.frozen? ⟨g, 1, none⟩ = false ∧ w.frozen? ⟨g, 2, none⟩ = false ∧ w.frozen? ⟨g, 3, none⟩ = false ∧ w.frozen? ⟨g, 4, none⟩ = false ∧ w.frozen? ⟨g, 5, none⟩ = false ∧ w.frozen? ⟨g, 6, none⟩ = false ∧ w.frozen? ⟨g, 7, none⟩ = false ∧ w.frozen? ⟨g, 8, none⟩ = false :=
  ⟨At.free h 0, At.free h 1, At.free h 2, At.free h 3, At.free h 4, At.free h 5, At.free h 6, At.free h 7, At.free h 8⟩
/-- A word is stored into block g. -/
def stW (w : World) (g : Nat) (x : Wd) (p : Int) : World :=
  ((((((((w.setCell ⟨g, 0, none⟩ (.int .i64 x.kind)).setCell ⟨g, 1, none⟩ (.int .i64 p)).setCell ⟨g, 2, none⟩ (.int .u64 x.set.w0)).setCell ⟨g, 3, none⟩ (.int .u64 x.set.w1)).setCell ⟨g, 4, none⟩ (.int .u64 x.set.w2)).setCell ⟨g, 5, none⟩ (.int .u64 x.set.w3)).setCell ⟨g, 6, none⟩ (.string x.name)).setCell ⟨g, 7, none⟩ (.int .i64 x.lo)).setCell ⟨g, 8, none⟩ (.int .i64 x.hi)
theorem WdAt.store {w : World} {g : Nat} {x : Wd} {p : Int} (h : WdAt w g x p) (y : Wd) (q : Int) : WdAt (stW w g y q) g y q := by
  have h1 := ((((((((At.set h 0 (.int .i64 y.kind)).set 1 (.int .i64 q)).set 2 (.int .u64 y.set.w0)).set 3 (.int .u64 y.set.w1)).set 4 (.int .u64 y.set.w2)).set 5 (.int .u64 y.set.w3)).set 6 (.string y.name)).set 7 (.int .i64 y.lo)).set 8 (.int .i64 y.hi)
  simp only [wdCells, List.setIfInBounds_toArray, List.set_cons_zero, List.set_cons_succ] at h1
  exact h1
theorem WdAt.other {w : World} {g g' : Nat} {x : Wd} {p : Int} (h : WdAt w g x p) (hne : g ≠ g') (y : Wd) (q : Int) : WdAt (stW w g' y q) g x p :=
  At.other (At.other (At.other (At.other (At.other (At.other (At.other (At.other (At.other h hne _) hne _) hne _) hne _) hne _) hne _) hne _) hne _) hne _
theorem below_stW {B : Nat} {W w : World} (h : Below B W w) {g : Nat} (hg : B ≤ g) (x : Wd) (p : Int) : Below B W (stW w g x p) :=
  ((((((((h.setCell hg _).setCell hg _).setCell hg _).setCell hg _).setCell hg _).setCell hg _).setCell hg _).setCell hg _).setCell hg _
theorem WdAt.next {w w' : World} {g : Nat} {x : Wd} {p : Int} (h : WdAt w g x p) (hb : Below w.heap.size w w') : WdAt w' g x p := At.below h hb (At.lt h)
theorem WdAt.drewN {w : World} {g : Nat} {x : Wd} {p : Int} (h : WdAt w g x p) (n : Nat) : WdAt (w.drewN n) g x p := h
theorem WdAt.alloc {w : World} {g : Nat} {x : Wd} {p : Int} (h : WdAt w g x p) (o : Obj) : WdAt (w.alloc o) g x p := At.alloc h o
theorem WdAt.new (w : World) (x : Wd) (p : Int) : WdAt (w.alloc (.cells (wdCells x p) 31)) w.heap.size x p := At.new _ _ _
/-- The zero word in a new block. -/
def zw (w : World) : World := w.alloc (.cells #[.int .i64 0, .int .i64 0, .int .u64 0, .int .u64 0, .int .u64 0, .int .u64 0, .string { data := #[] }, .int .i64 0, .int .i64 0] 31)
theorem WdAt.zero (w : World) : WdAt (zw w) w.heap.size wd0 0 := At.new _ _ _
theorem zw_below (w : World) : Below w.heap.size w (zw w) := (Below.refl _ _).alloc (Nat.le_refl _) _
theorem zw_size (w : World) : (zw w).heap.size = w.heap.size + 1 := World.size_alloc _ _
theorem find_fuel (t : ByteArray) (c : Nat) : ∀ f g i, t.size < i + f → t.size < i + g → findS t c f i = findS t c g i := by
  intro f
  induction f with
  | zero => intro g i h1 h2; cases g with | zero => rfl | succ g => rw [find_here (Or.inl (by omega))]; rfl
  | succ f ih =>
    intro g i h1 h2
    cases g with
    | zero => rw [find_here (Or.inl (by omega))]; rfl
    | succ g =>
      by_cases h : t.size ≤ i ∨ bt t i = c
      · rw [find_here h, find_here h]
      · rw [find_next h, find_next h]; exact ih g (i + 1) (by omega) (by omega)
theorem find_le (t : ByteArray) (c : Nat) : ∀ f i, i ≤ findS t c f i
  | 0, i => Nat.le_refl _
  | f + 1, i => by
    by_cases h : t.size ≤ i ∨ bt t i = c
    · rw [find_here h]; exact Nat.le_refl _
    · rw [find_next h]; have := find_le t c f (i + 1); omega

set_option maxRecDepth 100000 in
set_option maxHeartbeats 4000000 in
theorem lexBraces (s : ByteArray) (hs : s.size ≤ 20000) (h0 : 0 < s.size) (hb0 : bt s 0 = 123) (w : World) :
    Calls Try.prog 17 #[.string s] w fun e w' => e = .returned (.tuple #[.agg (wdCells (bracesS s 0).1 0), .int .i64 (bracesS s 0).2]) ∧ Below w.heap.size w w' := by
  obtain ⟨k, hk⟩ : ∃ k, findS s 125 (s.size + 1) (0 + 1) = k := ⟨_, rfl⟩
  have hk0 : findS s 125 (s.size + 1) 0 = k := by
    rw [find_next (by omega), ← hk]
    exact find_fuel s 125 _ _ _ (by omega) (by omega)
  have h1k : 1 ≤ k := by rw [← hk]; exact find_le s 125 _ 1
  have HE : Hid (bracesS s 0 = bracesAt s 0 k) := Lib.hid (by unfold bracesS; rw [hk])
  by_cases hlt : k < s.size
  · have HI : Hid ((if findS s 125 (s.size + 1) 0 < s.size then ((findS s 125 (s.size + 1) 0 : Nat) : Int) else -1) = (k : Int)) := Lib.hid (by rw [hk0, if_pos hlt])
    have hke : ¬ s.size ≤ k := by omega
    have hks : k ≤ s.size := by omega
    obtain ⟨u, hu⟩ : ∃ u, s.extract 1 k = u := ⟨_, rfl⟩
    have HUX : Hid (s.extract (0 + 1) k = u) := Lib.hid hu
    have hus : u.size ≤ 20000 := by rw [← hu, sub_size _ _ _ hks]; omega
    obtain ⟨v, hv⟩ : ∃ v, namedS u = v := ⟨_, rfl⟩
    have HNM := Lib.hid hv
    have d1 : decide ((k : Int) < 0) = false := txt_f (by omega)
    clear hv hk hk0
    rcases v with _ | _
    · obtain ⟨r, hr⟩ : ∃ r, boundsS u = r := ⟨_, rfl⟩
      have HR := Lib.hid hr
      have hbd := fun w => lexBounds u hus w
      rw [hr] at hbd
      clear hr
      rcases r with _ | ⟨a, b⟩
      · have HV : Hid (bracesS s 0 = (wd0, 0)) := Lib.hid (by rw [HE.out]; exact braces_no hke HUX.out HNM.out HR.out)
        simp only [boundsV] at hbd
        go_enter Try.func17, Try.ntmps17
        go_wp2_with fail
        refine (textIndexByte s 125 (by omega) (s.size + 1) (by omega) k HI.out _).mono ?_
        rintro e w1 ⟨rfl, rfl⟩
        go_wp2_with fail
        refine (lexNameV u hus false HNM.out _).mono ?_
        rintro e w1 ⟨rfl, rfl⟩
        go_wp2_with fail
        refine (hbd _).mono ?_
        rintro e w1 ⟨rfl, q, rfl⟩
        obtain ⟨y0, y1, y2, y3, y4, y5, y6, y7, y8⟩ := ((WdAt.zero w).drewN q).frees
        obtain ⟨z0, z1, z2, z3, z4, z5, z6, z7, z8⟩ := ((WdAt.zero w).drewN q).cells
        go_wp2_with fail
        exact bodyPost_ret (results_row_tmp Try.results17 _ _ w.heap.size 31 _ (0, 0) _ rfl (((WdAt.zero w).drewN q).store wd0 0) Try.underlying31 rfl (by kernel_rfl)) rfl ⟨by rw [HV.out]; rfl, below_stW (below_drew (zw_below w) q) (Nat.le_refl _) wd0 0⟩
      · have HV : Hid (bracesS s 0 = (⟨10, emptyC, { data := #[] }, a, b⟩, (k : Int) + 1)) := Lib.hid (by rw [HE.out, braces_yes hke HUX.out HNM.out HR.out]; simp)
        simp only [boundsV] at hbd
        go_enter Try.func17, Try.ntmps17
        go_wp2_with fail
        refine (textIndexByte s 125 (by omega) (s.size + 1) (by omega) k HI.out _).mono ?_
        rintro e w1 ⟨rfl, rfl⟩
        go_wp2_with fail
        refine (lexNameV u hus false HNM.out _).mono ?_
        rintro e w1 ⟨rfl, rfl⟩
        go_wp2_with fail
        refine (hbd _).mono ?_
        rintro e w1 ⟨rfl, q, rfl⟩
        obtain ⟨y0, y1, y2, y3, y4, y5, y6, y7, y8⟩ := ((WdAt.zero w).drewN q).frees
        obtain ⟨z0, z1, z2, z3, z4, z5, z6, z7, z8⟩ := ((WdAt.zero w).drewN q).cells
        go_wp2_with fail
        exact bodyPost_ret (results_row_tmp Try.results17 _ _ w.heap.size 31 _ (0, 0) _ rfl (((WdAt.zero w).drewN q).store ⟨10, emptyC, { data := #[] }, a, b⟩ 0) Try.underlying31 rfl (by kernel_rfl)) rfl ⟨by rw [HV.out]; rfl, below_stW (below_drew (zw_below w) q) (Nat.le_refl _) ⟨10, emptyC, { data := #[] }, a, b⟩ 0⟩
    · have HV : Hid (bracesS s 0 = (⟨11, emptyC, u, 0, 0⟩, (k : Int) + 1)) := Lib.hid (by rw [HE.out, braces_name hke HUX.out HNM.out]; simp)
      go_enter Try.func17, Try.ntmps17
      go_wp2_with fail
      refine (textIndexByte s 125 (by omega) (s.size + 1) (by omega) k HI.out _).mono ?_
      rintro e w1 ⟨rfl, rfl⟩
      go_wp2_with fail
      refine (lexNameV u hus true HNM.out _).mono ?_
      rintro e w1 ⟨rfl, rfl⟩
      go_wp2_with fail
      refine (textClone u _ (by omega)).mono ?_
      rintro e w1 ⟨rfl, hb1⟩
      have HZ1 := Lib.hid ((WdAt.zero w).next hb1)
      have hB1 : Below w.heap.size w w1 := (zw_below w).trans (hb1.mono (zw_below w).size)
      obtain ⟨y0, y1, y2, y3, y4, y5, y6, y7, y8⟩ := HZ1.out.frees
      obtain ⟨z0, z1, z2, z3, z4, z5, z6, z7, z8⟩ := HZ1.out.cells
      clear hb1
      go_wp2_with fail
      exact bodyPost_ret (results_row_tmp Try.results17 _ _ w.heap.size 31 _ (0, 0) _ rfl (HZ1.out.store ⟨11, emptyC, u, 0, 0⟩ 0) Try.underlying31 rfl (by kernel_rfl)) rfl ⟨by rw [HV.out]; rfl, below_stW hB1 (Nat.le_refl _) ⟨11, emptyC, u, 0, 0⟩ 0⟩
  · have HI : Hid ((if findS s 125 (s.size + 1) 0 < s.size then ((findS s 125 (s.size + 1) 0 : Nat) : Int) else -1) = -1) := Lib.hid (by rw [hk0, if_neg hlt])
    have HV : Hid (bracesS s 0 = (wd0, 0)) := Lib.hid (by rw [HE.out, braces_past (by omega)])
    clear hk hk0
    go_enter Try.func17, Try.ntmps17
    go_wp2_with fail
    refine (textIndexByte s 125 (by omega) (s.size + 1) (by omega) (-1) HI.out _).mono ?_
    rintro e w1 ⟨rfl, rfl⟩
    go_wp2_with fail
    refine bodyPost_ret (v := .tuple #[.agg (wdCells wd0 0), .int .i64 0]) (by simp [results, Try.results17, go_sem, wdCells, wd0, emptyC]) rfl ⟨txt_word HV.out, ?_⟩
    repeat (first | exact Below.refl _ _ | refine Below.drew ?_ | refine Below.alloc ?_ (by simp; try omega) _)
end Go.Proofs.Ytdcldhkpmihahaa
