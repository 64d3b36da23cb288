/- The parser's small steps: peek, next, take, fail, enter, leave. -/
import Derived.Test.YtkbfoelffeocmaaPState
import Derived.Test.YtkbfoelffeocmaaMb
namespace Go.Proofs.Ytkbfoelffeocmaa
open Go.RowKit
set_option linter.unusedSimpArgs false
set_option linter.unusedVariables false

theorem Wd.one (x : Wd) (p : Int) : (wdCells x p).all (·.oneCell') = true := by unfold wdCells; simp [Value.oneCell']
def P0 (g : Nat) : Value := .pointer (some ⟨g, 0, none⟩)

set_option maxRecDepth 100000 in
set_option maxHeartbeats 4000000 in
theorem pPeek (g E : Nat) (D : Value) (s : PSt) (w : World) (h : PAt w g E D s) (hE : E ≤ 20000) :
    Calls Try.prog 37 #[.pointer (some ⟨g, 0, none⟩)] w fun e w' => e = .returned (.agg (wdCells (peekS E s).1 (peekS E s).2)) ∧ Below w.heap.size w w' := by
  obtain ⟨v, ⟨A, cap, rfl, hcap, hws⟩, hA⟩ := h
  have hAz := hA.alloc (.cells #[.int .i64 0, .int .i64 0, .int .u64 0, .int .u64 0, .int .u64 0, .int .u64 0, .string { data := #[] }, .int .i64 0, .int .i64 0] 57)
  have c0 := hAz.cell 0
  have c1 := hAz.cell 1
  rw [show (s.cs (.slice A s.ws.length cap) E D)[0]? = some (.slice A s.ws.length cap) from rfl] at c0
  rw [show (s.cs (.slice A s.ws.length cap) E D)[1]? = some (.int .i64 E) from rfl] at c1
  have hz : At (w.alloc (.cells #[.int .i64 0, .int .i64 0, .int .u64 0, .int .u64 0, .int .u64 0, .int .u64 0, .string { data := #[] }, .int .i64 0, .int .i64 0] 57)) w.heap.size 57 (wdCells wd0 0) := At.new w 57 (wdCells wd0 0)
  have hone := Wd.one
  cases hs : s.ws with
  | nil =>
    have HR : Hid (peekS E s = (wd0, E)) := Lib.hid (by unfold peekS; rw [hs])
    rw [hs] at c0
    change World.cell? _ _ = some (.slice A 0 cap) at c0
    have hone1 := hone wd0 E
    clear hws hs hA hcap
    go_enter Try.func37, Try.ntmps37
    go_wp2_with (first
      | (with_reducible show wpList _ _ _ ({ dst := none, op := .store _ _ _, type := _, pos := _, after := _, guard := _ } :: _) _ _
         refine wpList_store_row rfl 57 _ _ rfl w.heap.size (wdCells wd0 E) rfl rfl 57 (wdCells wd0 0) hz (by kernel_rfl) rfl hone1 ?_) | fail)
    exact bodyPost_ret (results_cell_row Try.results37 _ _ w.heap.size 57 (wdCells wd0 E) (0, 0) _ rfl (hz.row _) Try.underlying57 rfl (by kernel_rfl)) rfl ⟨by rw [HR.out], ((Below.refl _ _).alloc (Nat.le_refl _) _).trans ((Only.row _ _ _).below (Nat.le_refl _))⟩
  | cons x r =>
    obtain ⟨b, off, rfl, hlt, hr⟩ := hws (by rw [hs]; exact Nat.succ_pos _)
    have HR : Hid (peekS E s = x) := Lib.hid (by unfold peekS; rw [hs])
    have hr0 := hr 0 (by rw [hs]; simp)
    simp only [hs, List.getElem_cons_zero] at hr0
    have hr1 : (w.alloc (.cells #[.int .i64 0, .int .i64 0, .int .u64 0, .int .u64 0, .int .u64 0, .int .u64 0, .string { data := #[] }, .int .i64 0, .int .i64 0] 57)).rangeAt b off (wdCells x.1 x.2).toList := range_below (by simpa using hr0) (Nat.lt_trans hlt hA.lt) (Nat.le_refl _) ((Below.refl _ _).alloc (Nat.le_refl _) _)
    have HR1 := Lib.hid hr1
    rw [hs] at c0
    have hone1 := hone x.1 x.2
    have hl0 : (0 : Int) < ((x :: r).length : Int) := by rw [List.length_cons]; omega
    have hl1 : ¬ ((x :: r).length : Int) = 0 := by omega
    have hl2 := (int_ne hl1).1
    generalize hk : (x :: r).length = n at c0 hl0 hl1 hl2
    clear hws hs hA hcap hr hr0 hr1 hk
    go_enter Try.func37, Try.ntmps37
    go_wp2_with (first
      | (refine wpList_load_mid rfl 57 _ rfl b off rfl (wdCells x.1 x.2).toList _ HR1.out Try.underlying57 rfl (by kernel_rfl) ?_)
      | (with_reducible show wpList _ _ _ ({ dst := none, op := .store _ _ _, type := _, pos := _, after := _, guard := _ } :: _) _ _
         refine wpList_store_row rfl 57 _ _ rfl w.heap.size (wdCells x.1 x.2) rfl rfl 57 (wdCells wd0 0) hz (by kernel_rfl) rfl hone1 ?_) | fail)
    exact bodyPost_ret (results_cell_row Try.results37 _ _ w.heap.size 57 (wdCells x.1 x.2) (0, 0) _ rfl (hz.row _) Try.underlying57 rfl (by kernel_rfl)) rfl ⟨by rw [HR.out], ((Below.refl _ _).alloc (Nat.le_refl _) _).trans ((Only.row _ _ _).below (Nat.le_refl _))⟩

/- Words in a new variable. -/
def boxWd (w : World) (x : Wd) (p : Int) : World := (w.alloc (.cells #[.int .i64 0, .int .i64 0, .int .u64 0, .int .u64 0, .int .u64 0, .int .u64 0, .string { data := #[] }, .int .i64 0, .int .i64 0] 57)).setRow w.heap.size (wdCells x p)
theorem boxWd_at (w : World) (x : Wd) (p : Int) : At (boxWd w x p) w.heap.size 57 (wdCells x p) := At.row (At.new w 57 (wdCells wd0 0)) _
theorem boxWd_next (w : World) (x : Wd) (p : Int) : Below w.heap.size w (boxWd w x p) := ((Below.refl _ _).alloc (Nat.le_refl _) _).trans ((Only.row _ _ _).below (Nat.le_refl _))
theorem boxWd_size (w : World) (x : Wd) (p : Int) : (boxWd w x p).heap.size = w.heap.size + 1 := by unfold boxWd; rw [setRow_size]; simp
theorem PAt.c0 {w : World} {g E : Nat} {D : Value} {s : PSt} (h : PAt w g E D s) : ∃ v, WordsIn w g v s.ws ∧ At w g 71 (s.cs v E D) ∧ w.cell? ⟨g, 0, none⟩ = some v ∧ w.cell? ⟨g, 1, none⟩ = some (.int .i64 E) ∧ w.cell? ⟨g, 2, none⟩ = some D ∧ w.cell? ⟨g, 3, none⟩ = some (.int .i64 s.op) ∧ w.cell? ⟨g, 4, none⟩ = some (.int .i64 s.flt) ∧ w.cell? ⟨g, 5, none⟩ = some (.int .i64 s.place) ∧ ∀ i, w.frozen? ⟨g, i, none⟩ = false := by
  obtain ⟨v, h1, h2⟩ := h
  exact ⟨v, h1, h2, h2.cell 0, h2.cell 1, h2.cell 2, h2.cell 3, h2.cell 4, h2.cell 5, fun i => h2.free i⟩
theorem words_tail {w : World} {g : Nat} {b off cap : Nat} {x : Wd × Nat} {r : List (Wd × Nat)} (h : WordsIn w g (.slice (some ⟨b, off, none⟩) (r.length + 1) cap) (x :: r)) (A : Option Addr) (c' : Nat) (hA : 0 < r.length → A = some ⟨b, off + 9, none⟩) (hc : r.length ≤ c' ∧ c' ≤ 9223372036854775807) : WordsIn w g (.slice A r.length c') r := by
  obtain ⟨A', cap', e, hcap, hw⟩ := h
  injection e with e1 e2 e3
  obtain ⟨b', off', ea, hlt, hr⟩ := hw (by simp)
  rw [← e1] at ea
  injection ea with ea
  injection ea with ea1 ea2
  subst ea1; subst ea2
  refine ⟨A, c', rfl, hc, fun h0 => ⟨b, off + 9, hA h0, hlt, fun j hj i u hu => ?_⟩⟩
  have := hr (j + 1) (by rw [List.length_cons]; omega) i u (by simpa using hu)
  rw [show off + (j + 1) * 9 + i = off + 9 + j * 9 + i by omega] at this
  exact this

set_option maxRecDepth 100000 in
set_option maxHeartbeats 4000000 in
theorem pNext (g E : Nat) (D : Value) (s : PSt) (w : World) (h : PAt w g E D s) (hE : E ≤ 20000) :
    Calls Try.prog 73 #[.pointer (some ⟨g, 0, none⟩)] w fun e w' => e = .returned (.agg (wdCells (peekS E s).1 (peekS E s).2)) ∧ PAt w' g E D (nextS s) ∧ w.grownBy w' (some g) := by
  obtain ⟨w1, hw1⟩ : ∃ w1, w1 = w.alloc (.cells #[.int .i64 0, .int .i64 0, .int .u64 0, .int .u64 0, .int .u64 0, .int .u64 0, .string { data := #[] }, .int .i64 0, .int .i64 0] 57) := ⟨_, rfl⟩
  have hb1 : Below w.heap.size w w1 := by rw [hw1]; exact (Below.refl _ _).alloc (Nat.le_refl _) _
  have hz1 : At w1 w.heap.size 57 (wdCells wd0 0) := by rw [hw1]; exact At.new w 57 (wdCells wd0 0)
  have hg := h.lt
  have HP1 := Lib.hid (h.next hb1)
  have HZ1 := Lib.hid hz1
  have HB1 := Lib.hid hb1
  have HW1 := Lib.hid hw1
  have HG := Lib.hid hg
  obtain ⟨x, hx⟩ : ∃ x, peekS E s = x := ⟨_, rfl⟩
  have HX := Lib.hid hx
  clear hb1 hz1 hw1 h hg hx
  rw [HX.out]
  have hone := Wd.one x.1 x.2
  go_enter Try.func73, Try.ntmps73
  go_wp2_with fail
  rw [← HW1.out]
  refine (pPeek g E D s w1 HP1.out hE).mono ?_
  rintro e w2 ⟨rfl, hb2⟩
  rw [HX.out]
  have HP3 := Lib.hid ((HP1.out.next hb2).next (boxWd_next w2 x.1 x.2))
  have HZ3 := Lib.hid (At.below (HZ1.out.below hb2 HZ1.out.lt) (boxWd_next w2 x.1 x.2) (Nat.lt_of_lt_of_le HZ1.out.lt hb2.size))
  have HB3 := Lib.hid ((HB1.out.trans (hb2.mono HB1.out.size)).trans ((boxWd_next w2 x.1 x.2).mono (Nat.le_trans HB1.out.size hb2.size)))
  have HX3 := Lib.hid (boxWd_at w2 x.1 x.2)
  have HS : Hid (g < w.heap.size ∧ w.heap.size < w2.heap.size) := Lib.hid ⟨HG.out, Nat.lt_of_lt_of_le HZ1.out.lt hb2.size⟩
  clear hb2
  obtain ⟨v, hwv, hA3, c0, c1, c2, c3, c4, c5, hf⟩ := HP3.out.c0
  have f0 := hf 0
  obtain ⟨A, cap, rfl, hcap, hws⟩ := id hwv
  have HWV := Lib.hid hwv
  have HA3 := Lib.hid hA3
  clear hwv hA3 c1 c2 c3 c4 c5 hf
  cases hs : s.ws with
  | nil =>
    rw [hs] at c0
    change World.cell? _ _ = some (.slice A 0 cap) at c0
    have HN : Hid (nextS s = s) := Lib.hid (by unfold nextS; rw [hs]; cases s; simp only [PSt.mk.injEq] at hs ⊢; simp_all)
    clear hws hs hcap
    go_wp2_with (first
      | (with_reducible show wpList _ _ _ ({ dst := none, op := .store _ _ _, type := _, pos := _, after := _, guard := _ } :: _) _ _
         refine wpList_store_row rfl 57 _ _ rfl w2.heap.size (wdCells x.1 x.2) rfl rfl 57 (wdCells wd0 0) (At.new _ _ _) (by kernel_rfl) rfl hone ?_
         change Exit.then _ _ _ _ (boxWd w2 x.1 x.2))
      | (with_reducible show wpList _ _ _ ({ dst := none, op := .store _ _ _, type := _, pos := _, after := _, guard := _ } :: _) _ _
         refine wpList_store_row rfl 57 _ _ rfl w.heap.size (wdCells x.1 x.2) rfl rfl 57 (wdCells wd0 0) HZ3.out (by kernel_rfl) rfl hone ?_)
      | (refine wpList_load_row rfl 57 _ rfl w2.heap.size rfl 57 (wdCells x.1 x.2) (0, 0) _ HX3.out Try.underlying57 rfl (by kernel_rfl) ?_)
      | fail)
    exact bodyPost_ret (results_cell_row Try.results73 _ _ w.heap.size 57 (wdCells x.1 x.2) (0, 0) _ rfl (HZ3.out.row _) Try.underlying57 rfl (by kernel_rfl)) rfl ⟨rfl, by rw [HN.out]; exact HP3.out.keep ((Only.row _ _ _).below (Nat.le_refl w.heap.size)) HG.out, grownBy_from (grownBy_from (grownBy_refl w (some g)) HB3.out (Nat.le_refl _)) ((Only.row _ _ _).below (Nat.le_refl w.heap.size)) (Nat.le_refl _)⟩
  | cons y r =>
    obtain ⟨b, off, rfl, hlt, hr⟩ := hws (by rw [hs]; exact Nat.succ_pos _)
    rw [hs] at c0
    change World.cell? _ _ = some (.slice (some ⟨b, off, none⟩) (r.length + 1) cap) at c0
    have HN : Hid (nextS s = { s with ws := r }) := Lib.hid (by unfold nextS; rw [hs]; rfl)
    rw [hs, List.length_cons] at hcap
    have HSs := Lib.hid hs
    generalize hk : r.length = n at c0
    have hk0 : (0 : Int) < ((n + 1 : Nat) : Int) := by omega
    rw [hk] at hcap
    have HC := Lib.hid hcap
    have HK := Lib.hid hk
    clear hws hs hcap hr hk
    have tail : ∀ (A : Option Addr) (c' : Nat), (0 < n → A = some ⟨b, off + 9, none⟩) → (n ≤ c' ∧ c' ≤ 9223372036854775807) →
        PAt (((boxWd w2 x.1 x.2).setCell ⟨g, 0, none⟩ (.slice A n c')).setRow w.heap.size (wdCells x.1 x.2)) g E D { s with ws := r } ∧ w.grownBy (((boxWd w2 x.1 x.2).setCell ⟨g, 0, none⟩ (.slice A n c')).setRow w.heap.size (wdCells x.1 x.2)) (some g) := by
      intro A c' hA hc
      have hw0 : WordsIn (boxWd w2 x.1 x.2) g (.slice (some ⟨b, off, none⟩) (r.length + 1) cap) (y :: r) := by
        have := HWV.out
        rw [HSs.out] at this
        exact this
      have hw := words_tail hw0 A c' (by rw [HK.out]; exact hA) (by rw [HK.out]; exact hc)
      rw [HK.out] at hw
      have hg1 := grownBy_set (boxWd w2 x.1 x.2) g 0 (.slice A n c')
      have hA1 : At ((boxWd w2 x.1 x.2).setCell ⟨g, 0, none⟩ (.slice A n c')) g 71 (({ s with ws := r } : PSt).cs (.slice A n c') E D) := HA3.out.set 0 (.slice A n c')
      have hb4 : Below w.heap.size ((boxWd w2 x.1 x.2).setCell ⟨g, 0, none⟩ (.slice A n c')) (((boxWd w2 x.1 x.2).setCell ⟨g, 0, none⟩ (.slice A n c')).setRow w.heap.size (wdCells x.1 x.2)) := (Only.row _ _ _).below (Nat.le_refl _)
      have hgs : g ≤ (boxWd w2 x.1 x.2).heap.size := Nat.le_of_lt (Nat.lt_of_lt_of_le HG.out HB3.out.size)
      exact ⟨PAt.keep ⟨_, hw.keep (grownBy_lo hg1 hgs), hA1⟩ hb4 HG.out, grownBy_from (grownBy_trans (grownBy_from (grownBy_refl w (some g)) HB3.out (Nat.le_refl _)) hg1) hb4 (Nat.le_refl _)⟩
    have HT := Lib.hid tail
    clear tail
    by_cases h1 : cap = 1
    · subst h1
      obtain rfl : n = 0 := by have := HC.out; omega
      have hp := HT.out (some ⟨b, off, none⟩) 0 (fun q => absurd q (Nat.lt_irrefl _)) ⟨Nat.le_refl _, by decide⟩
      have HX4 := Lib.hid (HX3.out.other (p := ⟨g, 0, none⟩) (by have := HS.out; dsimp only; omega) (.slice (some ⟨b, off, none⟩) 0 0))
      have HZ4 := Lib.hid (HZ3.out.other (p := ⟨g, 0, none⟩) (by have := HS.out; dsimp only; omega) (.slice (some ⟨b, off, none⟩) 0 0))
      have HPP := Lib.hid hp
      clear hp
      go_wp2_with (first
        | (with_reducible show wpList _ _ _ ({ dst := none, op := .store _ _ _, type := _, pos := _, after := _, guard := _ } :: _) _ _
           refine wpList_store_row rfl 57 _ _ rfl w2.heap.size (wdCells x.1 x.2) rfl rfl 57 (wdCells wd0 0) (At.new _ _ _) (by kernel_rfl) rfl hone ?_
           change Exit.then _ _ _ _ (boxWd w2 x.1 x.2))
        | (with_reducible show wpList _ _ _ ({ dst := none, op := .store _ _ _, type := _, pos := _, after := _, guard := _ } :: _) _ _
           refine wpList_store_row rfl 57 _ _ rfl w.heap.size (wdCells x.1 x.2) rfl rfl 57 (wdCells wd0 0) HZ4.out (by kernel_rfl) rfl hone ?_)
        | (refine wpList_load_row rfl 57 _ rfl w2.heap.size rfl 57 (wdCells x.1 x.2) (0, 0) _ HX4.out Try.underlying57 rfl (by kernel_rfl) ?_)
        | fail)
      exact bodyPost_ret (results_cell_row Try.results73 _ _ w.heap.size 57 (wdCells x.1 x.2) (0, 0) _ rfl (HZ4.out.row _) Try.underlying57 rfl (by kernel_rfl)) rfl ⟨rfl, by rw [HN.out]; exact HPP.out.1, HPP.out.2⟩

    · have h2 : ¬ cap - 1 = 0 := by have := HC.out; omega
      have hp := HT.out (some ⟨b, off + 9, none⟩) (cap - 1) (fun _ => rfl) (by have := HC.out; omega)
      have HX4 := Lib.hid (HX3.out.other (p := ⟨g, 0, none⟩) (by have := HS.out; dsimp only; omega) (.slice (some ⟨b, off + 9, none⟩) n (cap - 1)))
      have HZ4 := Lib.hid (HZ3.out.other (p := ⟨g, 0, none⟩) (by have := HS.out; dsimp only; omega) (.slice (some ⟨b, off + 9, none⟩) n (cap - 1)))
      have HPP := Lib.hid hp
      clear hp
      go_wp2_with (first
        | (with_reducible show wpList _ _ _ ({ dst := none, op := .store _ _ _, type := _, pos := _, after := _, guard := _ } :: _) _ _
           refine wpList_store_row rfl 57 _ _ rfl w2.heap.size (wdCells x.1 x.2) rfl rfl 57 (wdCells wd0 0) (At.new _ _ _) (by kernel_rfl) rfl hone ?_
           change Exit.then _ _ _ _ (boxWd w2 x.1 x.2))
        | (with_reducible show wpList _ _ _ ({ dst := none, op := .store _ _ _, type := _, pos := _, after := _, guard := _ } :: _) _ _
           refine wpList_store_row rfl 57 _ _ rfl w.heap.size (wdCells x.1 x.2) rfl rfl 57 (wdCells wd0 0) HZ4.out (by kernel_rfl) rfl hone ?_)
        | (refine wpList_load_row rfl 57 _ rfl w2.heap.size rfl 57 (wdCells x.1 x.2) (0, 0) _ HX4.out Try.underlying57 rfl (by kernel_rfl) ?_)
        | fail)
      exact bodyPost_ret (results_cell_row Try.results73 _ _ w.heap.size 57 (wdCells x.1 x.2) (0, 0) _ rfl (HZ4.out.row _) Try.underlying57 rfl (by kernel_rfl)) rfl ⟨rfl, by rw [HN.out]; exact HPP.out.1, HPP.out.2⟩

end Go.Proofs.Ytkbfoelffeocmaa
