/- Joined: FoK, FoO, FoP, FmFew, FmSpec, FoQ, FgAnswer. -/
import Derived.Test.YthifbaacmohmnaaGreatMar
import Derived.Test.YthifbaacmohmnaaGreatMaq
import Derived.Test.YthifbaacmohmnaaGreatMak
/- package formula: and. -/
namespace Go.Proofs.YthifbaacmohmnaaGreat
open Go.RowKit
set_option linter.unusedVariables false
set_option linter.unusedSimpArgs false

/-- What a row of parts is, all of whose numbers are in L. -/
def InL (L : List Int) (xs : List Pt) : Prop := ∀ x ∈ xs, ∀ n ∈ x.l, n ∈ L
abbrev fmOf (xs : List Pt) : Fm := xs.map (·.l)
theorem fmOf_app (a b : List Pt) : fmOf (a ++ b) = fmOf a ++ fmOf b := List.map_append
theorem up_le {L : List Int} (hL : Up L) {p : List Int} (hp : Up p) (h : ∀ n ∈ p, n ∈ L) : p.length ≤ L.length := (up_sub L p hp hL h).length_le
theorem holds_app (f g : Fm) (on : List Int) : holdsS (f ++ g) on = (holdsS f on || holdsS g on) := by unfold holdsS; rw [List.any_append]
/-- What p with each of g is. -/
theorem with_holds {p : Pt} {gs ts : List Pt} (h : WithOk p gs ts) (on : List Int) : holdsS (fmOf ts) on = (partS p.l on && holdsS (fmOf gs) on) := by
  rcases h with ⟨ha, rfl⟩ | ⟨_, hl, ht⟩
  · obtain ⟨q, hq, e⟩ := List.any_eq_true.1 ha
    rw [Bool.eq_iff_iff, Bool.and_eq_true, holds_iff, holds_iff, part_iff]
    constructor
    · rintro ⟨x, hx, e2⟩
      have : x = p.l := by simpa using hx
      subst this
      exact ⟨e2, q.l, List.mem_map.2 ⟨q, hq, rfl⟩, fun z hz => e2 z (sub_iff.1 e z hz)⟩
    · rintro ⟨e2, _⟩
      exact ⟨p.l, by simp, e2⟩
  · rw [Bool.eq_iff_iff, Bool.and_eq_true, holds_iff, holds_iff, part_iff]
    constructor
    · rintro ⟨x, hx, e2⟩
      obtain ⟨t, htm, rfl⟩ := List.mem_map.1 hx
      obtain ⟨j, hj, rfl⟩ := List.mem_iff_getElem.1 htm
      obtain ⟨h1, _⟩ := ht j hj (by omega)
      exact ⟨fun z hz => e2 z ((h1 z).2 (.inl hz)), gs[j].l, List.mem_map.2 ⟨_, List.getElem_mem (by omega), rfl⟩, fun z hz => e2 z ((h1 z).2 (.inr hz))⟩
    · rintro ⟨e2, x, hx, e3⟩
      obtain ⟨q, hq, rfl⟩ := List.mem_map.1 hx
      obtain ⟨j, hj, rfl⟩ := List.mem_iff_getElem.1 hq
      obtain ⟨h1, _⟩ := ht j (by omega) hj
      refine ⟨ts[j].l, List.mem_map.2 ⟨_, List.getElem_mem (by omega), rfl⟩, fun z hz => ?_⟩
      rcases (h1 z).1 hz with h | h
      · exact e2 z h
      · exact e3 z h
theorem with_in {p : Pt} {gs ts : List Pt} {L : List Int} (h : WithOk p gs ts) (hp : ∀ n ∈ p.l, n ∈ L) (hg : InL L gs) : InL L ts := by
  rcases h with ⟨_, rfl⟩ | ⟨_, hl, ht⟩
  · intro x hx n hn
    rw [List.mem_singleton.1 hx] at hn; exact hp n hn
  · intro x hx n hn
    obtain ⟨j, hj, rfl⟩ := List.mem_iff_getElem.1 hx
    rcases ((ht j hj (by omega)).1 n).1 hn with h | h
    · exact hp n h
    · exact hg _ (List.getElem_mem (by omega)) n h
theorem with_len {p : Pt} {gs ts : List Pt} (h : WithOk p gs ts) : ts.length ≤ gs.length + 1 := by
  rcases h with ⟨_, rfl⟩ | ⟨_, hl, _⟩
  · simp
  · omega
theorem least_in {L : List Int} {xs r : List Pt} (h : LeastOf xs r) (hx : InL L xs) : InL L r := fun p hp n hn => by
  obtain ⟨x, hx', e⟩ := h.2.1 p hp
  rw [← e] at hn
  exact hx x hx' n hn

end Go.Proofs.YthifbaacmohmnaaGreat

/- package formula: answer. -/
namespace Go.Proofs.YthifbaacmohmnaaGreat
open Go.RowKit
set_option linter.unusedVariables false
set_option linter.unusedSimpArgs false

theorem info_list : (Tryz.prog.info? 80).map (fun i => (i.zero, i.size, i.bytes)) = some (some (.slice none 0 0), 1, 24) := by kernel_rfl
theorem make_form (n : Nat) (hn : n ≤ 1000000) (w : World) : (Instr.makeSlice 29 (.int .i64 (n : Int)) (.int .i64 (n : Int))).run Tryz.prog w = .ok (.slice (some ⟨w.heap.size, 0, none⟩) n n) (w.alloc (.cells (madeCells #[.slice none 0 0] n) 80)) := by
  exact run_make_row' 29 80 (.slice none 0 0) 24 Tryz.underlying29 info_list rfl .i64 .i64 n (by omega) (by omega) w
theorem own_ints {w : World} {base : Nat} {v : Value} {l : List Int} (h : w.ownsRow base 3 1 v l.length (l.map (Value.int .i64))) (hI : ∀ x ∈ l, IsI x) :
    ∃ A c, v = .slice A l.length c ∧ IntsAt w v l ∧ ∀ b off s, A = some ⟨b, off, s⟩ → base ≤ b := by
  rcases h.2 with ⟨rfl, hn⟩ | ⟨g, cap, cur, rfl, hbg, hc, r1, r2, r3, r4⟩
  · have : l = [] := List.eq_nil_of_length_eq_zero hn
    subst this
    exact ⟨none, 0, rfl, ⟨none, 0, rfl, Nat.le_refl _, by omega, hI, fun h => absurd h (Nat.lt_irrefl _)⟩, fun b off s e => by cases e⟩
  · refine ⟨_, cap, rfl, ⟨_, cap, rfl, r1, by unfold maxLen at r2; omega, hI, fun h0 => ⟨g, 0, rfl, (Array.getElem?_eq_some_iff.1 hc).1, fun j hj => ?_⟩⟩, fun b off s e => by injection e with e; injection e with e _ _; omega⟩
    rw [Nat.zero_add, World.ownsRow.cellAt h j (by omega), List.getElem?_map, List.getElem?_eq_getElem hj, inAt_lt hj]; rfl
theorem own_slice {w : World} {base : Nat} {E : TypeId} {sz n : Nat} {v : Value} {xs : List Value} (h : w.ownsRow base E sz v n xs) : ∃ A c, v = .slice A n c := by
  rcases h.2 with ⟨rfl, rfl⟩ | ⟨g, cap, cur, rfl, _⟩
  · exact ⟨_, _, rfl⟩
  · exact ⟨_, _, rfl⟩

theorem grown1 (w : World) (g o : Nat) (v : Value) : w.grownBy (w.setCell ⟨g, o, none⟩ v) (some g) :=
  ⟨rfl, rfl, rfl, by simp [World.setCell], fun k hk hne => Below.heap_setCell _ ⟨g, o, none⟩ v k (fun e => hne (by rw [e]))⟩

end Go.Proofs.YthifbaacmohmnaaGreat

/- package formula: mathematics of Formed. No program is walked here. -/
namespace Go.Proofs.YthifbaacmohmnaaGreat
open Go.RowKit
set_option linter.unusedVariables false
set_option linter.unusedSimpArgs false

theorem srt_sub {α : Type} {R : α → α → Prop} (hi : ∀ a, ¬ R a a) (ht : ∀ a b c, R a b → R b c → R a c) : ∀ (m l : List α), l.Pairwise R → m.Pairwise R → (∀ x ∈ l, x ∈ m) → l.Sublist m
  | [], l, _, _, h => by
    cases l with
    | nil => exact List.Sublist.slnil
    | cons x r => exact absurd (h x (by simp)) (by simp)
  | y :: m, [], _, _, _ => List.nil_sublist _
  | y :: m, x :: l, hl, hm, h => by
    rw [List.pairwise_cons] at hl hm
    rcases List.mem_cons.1 (h x (by simp)) with e | hx
    · subst e
      refine List.Sublist.cons_cons x (srt_sub hi ht m l hl.2 hm.2 (fun z hz => ?_))
      rcases List.mem_cons.1 (h z (by simp [hz])) with e | h'
      · have := hl.1 z hz; rw [e] at this; exact absurd this (hi _)
      · exact h'
    · refine List.Sublist.cons y (srt_sub hi ht m (x :: l) (List.pairwise_cons.2 hl) hm.2 (fun z hz => ?_))
      rcases List.mem_cons.1 (h z hz) with e | h'
      · subst e
        rcases List.mem_cons.1 hz with e | hz'
        · rw [e]; exact hx
        · exact absurd (ht _ _ _ (hm.1 x hx) (hl.1 z hz')) (hi _)
      · exact h'
theorem sub_of_less {l m : Fm} (hl : l.Pairwise (fun p q => lessS p q = true)) (hm : m.Pairwise (fun p q => lessS p q = true)) (h : ∀ x ∈ l, x ∈ m) : l.Sublist m :=
  srt_sub (R := fun p q => lessS p q = true) (fun a h => by rw [less_irr] at h; cases h) (fun a b c h h' => less_trans h h') m l hl hm h
/-- As far as place i the parts rise and stand in order. -/
def okTo (f : Fm) (i : Nat) : Prop := ∀ j, j < i → upS (-1) (paAt f j) = true ∧ (j = 0 ∨ lessS (paAt f (j - 1)) (paAt f j) = true)
theorem ok_all {f : Fm} (h : okTo f f.length) : f.Pairwise (fun p q => lessS p q = true) ∧ ∀ p ∈ f, Up p ∧ ∀ x ∈ p, 0 ≤ x := by
  constructor
  · refine up_of_steps (R := fun p q => lessS p q = true) (fun a b c h h' => less_trans h h') f (fun k hk => ?_)
    have := (h (k + 1) hk).2
    rw [Nat.add_sub_cancel, paAt_lt hk, paAt_lt (by omega)] at this
    rcases this with h | h
    · omega
    · exact h
  · intro p hp
    obtain ⟨j, hj, rfl⟩ := List.mem_iff_getElem.1 hp
    have := (h j hj).1
    rw [paAt_lt hj] at this
    obtain ⟨a, b⟩ := (up_iff _ _).1 this
    exact ⟨a, fun x hx => by have := b x hx; omega⟩
theorem fmd_ok {f : Fm} (h : Fmd f) : okTo f f.length := by
  intro j hj
  constructor
  · rw [up_iff, paAt_lt hj]
    obtain ⟨a, b⟩ := h.up _ (List.getElem_mem hj)
    exact ⟨a, fun x hx => by have := b x hx; omega⟩
  · by_cases h0 : j = 0
    · exact .inl h0
    · right
      rw [paAt_lt hj, paAt_lt (by omega)]
      exact List.pairwise_iff_getElem.1 h.sorted (j - 1) j (by omega) hj (by omega)
/-- One that isn't so at a place isn't formed. -/
theorem not_fm {f : Fm} {i : Nat} (hi : i < f.length) (h : ¬ (upS (-1) (paAt f i) = true ∧ (i = 0 ∨ lessS (paAt f (i - 1)) (paAt f i) = true))) : fmS f = false := by
  rw [← Bool.not_eq_true]
  intro e
  exact h (fmd_ok (fm_of e) i hi)
/-- The least of f's parts are as many as f's just if f is formed. -/
theorem least_fm {f : Fm} {ps r : List Pt} (hps : ps.map (·.l) = f) (hs : f.Pairwise (fun p q => lessS p q = true)) (h : LeastOf ps r) : fmS f = decide (r.length = f.length) := by
  have hin : ∀ p ∈ r.map (·.l), p ∈ f := fun p hp => by
    obtain ⟨q, hq, rfl⟩ := List.mem_map.1 hp
    obtain ⟨x, hx, e⟩ := h.2.1 q hq
    rw [← hps, ← e]; exact List.mem_map.2 ⟨x, hx, rfl⟩
  have hsub := sub_of_less h.1.sorted hs hin
  rw [Bool.eq_iff_iff, decide_eq_true_eq]
  constructor
  · intro e
    have := fm_unique h.1 (fm_of e) (fun on => by rw [h.holds on, hps])
    rw [← this]; simp
  · intro e
    have : r.map (·.l) = f := hsub.eq_of_length (by rw [List.length_map]; exact e)
    rw [← this]; exact fm_mk h.1
theorem least_most {f : Fm} {ps : List Pt} (hps : ps.map (·.l) = f) (hs : f.Pairwise (fun p q => lessS p q = true)) : ∀ r : Fm, Fmd r → (∀ p ∈ r, ∃ x ∈ ps, x.l = p) → r.length ≤ f.length := fun r hr hp =>
  (sub_of_less hr.sorted hs (fun p h => by
    obtain ⟨x, hx, e⟩ := hp p h
    rw [← hps, ← e]; exact List.mem_map.2 ⟨x, hx, rfl⟩)).length_le

end Go.Proofs.YthifbaacmohmnaaGreat

/- bolterlaw11.Few: two formulas of a size that is looked at. -/
namespace Go.Proofs.YthifbaacmohmnaaGreat
open Go.RowKit
set_option linter.unusedVariables false
set_option linter.unusedSimpArgs false

end Go.Proofs.YthifbaacmohmnaaGreat

/- What a formula package does. -/
namespace Go.Proofs.YthifbaacmohmnaaGreat
open Go.RowKit
set_option linter.unusedVariables false

end Go.Proofs.YthifbaacmohmnaaGreat

/- package formula: Formed, Or, And. -/
namespace Go.Proofs.YthifbaacmohmnaaGreat
open Go.RowKit
set_option linter.unusedVariables false
set_option linter.unusedSimpArgs false

end Go.Proofs.YthifbaacmohmnaaGreat

/- package formula: answer, in memory of its own. -/
namespace Go.Proofs.YthifbaacmohmnaaGreat
open Go.RowKit
set_option linter.unusedVariables false
set_option linter.unusedSimpArgs false

/-- A formula that stays as long as the blocks from base on do. -/
def FmFrom (base : Nat) (w : World) (v : Value) (f : Fm) : Prop := ∀ w' : World, (∀ b, base ≤ b → b < w.heap.size → w'.heap[b]? = w.heap[b]?) → w.heap.size ≤ w'.heap.size → FmAt w' v f
theorem FmFrom.here {base : Nat} {w : World} {v : Value} {f : Fm} (h : FmFrom base w v f) : FmAt w v f := h w (fun _ _ _ => rfl) (Nat.le_refl _)
theorem FmFrom.next {base : Nat} {w w' : World} {v : Value} {f : Fm} (h : FmFrom base w v f) (hb : Below w.heap.size w w') : FmFrom base w' v f := fun w'' h1 h2 => h w'' (fun b b1 b2 => (h1 b b1 (Nat.lt_of_lt_of_le b2 hb.size)).trans (hb.block b b2)) (Nat.le_trans hb.size h2)
theorem FmFrom.low {base base' : Nat} {w : World} {v : Value} {f : Fm} (h : FmFrom base w v f) (hb : base' ≤ base) : FmFrom base' w v f := fun w'' h1 h2 => h w'' (fun b b1 b2 => h1 b (Nat.le_trans hb b1) b2) h2
theorem FmFrom.none (base : Nat) (w : World) : FmFrom base w (.slice none 0 0) [] := fun w' _ _ => ⟨Option.none, 0, rfl, Nat.le_refl _, by omega, fun h => absurd h (Nat.lt_irrefl _)⟩

set_option maxRecDepth 100000 in
set_option maxHeartbeats 8000000 in
theorem gAnswer (xs : List Pt) (A : Option Addr) (n c : Nat) (w : World) (h : PsAt w (.slice A n c) xs) (hl : xs.length ≤ 100000) (hl2 : ∀ x ∈ xs, x.l.length ≤ 1000000) :
    Calls Tryz.prog 182 #[.slice A n c, .bool true] w fun e w' => ∃ b, e = .returned (.tuple #[.slice (some ⟨b, 0, none⟩) xs.length xs.length, .int .i64 0]) ∧ FmFrom w.heap.size w' (.slice (some ⟨b, 0, none⟩) xs.length xs.length) (fmOf xs) ∧ Below w.heap.size w w' := by
  have HI := Lib.hid h
  obtain ⟨hm, hm2, hm3⟩ := h.max
  obtain rfl := h.len
  have HL2 := Lib.hid hl2
  have hmk := make_form xs.length (by omega)
  have hB0 : Below w.heap.size w (w.alloc (.cells (madeCells #[.slice none 0 0] xs.length) 80)) := (Below.refl _ _).alloc (Nat.le_refl _) _
  have hA0 : At (w.alloc (.cells (madeCells #[.slice none 0 0] xs.length) 80)) w.heap.size 80 (madeCells #[.slice none 0 0] xs.length) := At.new _ _ _
  have hms : (madeCells #[Value.slice none 0 0] xs.length).size = xs.length := by simp [madeCells]
  clear h hl2
  go_enter Tryz.func182, Tryz.ntmps182
  go_wp2_with fail
  clear hmk
  generalize w.alloc (.cells (madeCells #[.slice none 0 0] xs.length) 80) = W at hB0 hA0 ⊢
  generalize madeCells #[Value.slice none 0 0] xs.length = cs0 at hA0 hms
  have HB0 := Lib.hid hB0
  have HA0 := Lib.hid hA0
  have HMs := Lib.hid hms
  obtain ⟨g, hgd⟩ : ∃ g, g = w.heap.size := ⟨_, rfl⟩
  have hgd2 := Lib.hid hgd
  clear hB0 hA0 hms
  rw [← hgd] at HA0 ⊢
  clear hgd
  go_loopw [16] (fun v wr => ∃ (i : Nat), i ≤ xs.length ∧ v = .int .i64 i ∧ Hid (Below w.heap.size w wr) ∧ Hid (∃ cs, At wr g 80 cs ∧ cs.size = xs.length ∧ ∀ j (h : j < xs.length), j < i → ∃ u, cs[j]? = some u ∧ PtOk wr (fun b => b < w.heap.size ∨ b = g) ⟨u, xs[j].m, xs[j].l⟩)) (fun v _ => xs.length - (intOf v).toNat)
  case atStart => exact ⟨0, Nat.zero_le _, rfl, HB0, Lib.hid ⟨cs0, HA0.out, HMs.out, fun j h h0 => absurd h0 (Nat.not_lt_zero _)⟩⟩
  case round =>
    obtain ⟨i, hi, rfl, HB, HT⟩ := hrel
    by_cases hlt : i < xs.length
    · have h1 : (0 : Int) ≤ (i : Int) := by omega
      have h2 : (i : Int) < (xs.length : Int) := by omega
      obtain ⟨gx, x, rfl, _, hx, q0, q1, hxo⟩ := (HI.out.next HB.out).at i hlt
      have HX := Lib.hid hxo
      have HXi := Lib.hid hx
      have HXm : Hid (x ∈ xs) := Lib.hid (by rw [← (List.getElem?_eq_some_iff.1 hx).2]; exact List.getElem_mem hlt)
      obtain ⟨Ax, cx, hv, _⟩ := hxo.1
      obtain ⟨xv, hxv⟩ : ∃ xv, x.v = xv := ⟨_, rfl⟩
      rw [hxv] at hv q0
      subst hv
      have HXv := Lib.hid hxv
      clear hxo hx hxv
      obtain ⟨cs, k1, k2, k3⟩ := HT.out
      have hgl := k1.lt
      have hb1 : Below wr.heap.size wr ((wr.alloc (.cells #[.slice Ax x.l.length cx, .int .u64 x.m] 171)).alloc (.cells #[] 3)) := ((Below.refl _ _).alloc (Nat.le_refl _) _).alloc (by simp) _
      have hsrc : Src ((wr.alloc (.cells #[.slice Ax x.l.length cx, .int .u64 x.m] 171)).alloc (.cells #[] 3)) 1 (.slice Ax x.l.length cx) x.l.length (x.l.map (Value.int .i64)) := by
        have := (HX.out.ints.next hb1).src
        rwa [HXv.out] at this
      obtain ⟨ti, hti, htz, hts, htb⟩ := info_parts info_int1
      have hes : (wr.alloc (.cells #[.slice Ax x.l.length cx, .int .u64 x.m] 171)).heap.size = wr.heap.size + 1 := by simp
      have hemp : ((wr.alloc (.cells #[.slice Ax x.l.length cx, .int .u64 x.m] 171)).alloc (.cells #[] 3)).ownsRow (wr.heap.size + 1) 3 1 (.slice (some ⟨wr.heap.size + 1, 0, none⟩) 0 0) 0 [] := by
        have := World.ownsRow_made (e := 3) (base := wr.heap.size + 1) (size := 1) (wr.alloc (.cells #[.slice Ax x.l.length cx, .int .u64 x.m] 171)) #[] 0 (by rw [hes]; exact Nat.le_refl _) (by decide) rfl
        rwa [hes] at this
      obtain ⟨v6, w6, hr6, o1, o2, o3⟩ := append_src (T := 80) (E := 3) Tryz.underlying80 hti htz hts htb rfl (by decide) (by decide) _ (wr.heap.size + 1) _ 0 [] _ x.l.length _ 80 hemp (by simp) hsrc (by have := HL2.out x HXm.out; omega)
      rw [Nat.zero_add, List.nil_append] at o1
      obtain ⟨A6, c6, rfl, o4, o5⟩ := own_ints o1 (fun y hy => by have := HX.out.2.1.2 y hy; unfold IsI; omega)
      have hb6 : Below wr.heap.size wr w6 := below_gr hb1 (by simp; omega) o2 (fun k e => by have e : some (wr.heap.size + 1) = some k := e; injection e with e; omega)
      have k1' := k1.below hb6 k1.lt
      have hwz := HB.out.size
      have hpt : PtOk w6 (fun b => b < w.heap.size ∨ b = g) ⟨.slice A6 x.l.length c6, x.m, x.l⟩ := ints_ptok o4 (fun b off s e h => by have := o5 b off s e; omega) HX.out.2.1.1 HX.out.2.1.2 HX.out.2.2
      obtain ⟨old, u0⟩ : ∃ old, w6.cell? ⟨g, i, none⟩ = some old := ⟨_, (k1'.cell i).trans (Array.getElem?_eq_getElem (by omega))⟩
      have f0 := k1'.free i
      have HR6 := Lib.hid hr6
      have HB6 := Lib.hid hb6
      have HPt := Lib.hid hpt
      have K1 := Lib.hid k1'
      have K2 := Lib.hid k2
      have K3 := Lib.hid k3
      have HG := Lib.hid hgl
      have Hes := Lib.hid hes
      clear k1 k1' k2 k3 hr6 hb6 hb1 hsrc hemp o1 o2 o3 o4 o5 hpt hti htz hts htb hes
      go_wp2_with (first | (at_builtin; refine Lib.wpList_append_run _ rfl _ _ _ _ rfl _ _ rfl rfl (.slice A6 x.l.length c6) w6 HR6.out ?_) | fail)
      have hg1 := grown1 w6 g i (.slice A6 x.l.length c6)
      have hgw : w.heap.size ≤ g := by rw [hgd2.out]; exact Nat.le_refl _
      refine ⟨⟨i + 1, by omega, by go_num, Lib.hid ((HB.out.trans (HB6.out.mono HB.out.size)).setCell (p := ⟨g, i, none⟩) hgw _), Lib.hid ⟨_, K1.out.set i _, by rw [Array.size_setIfInBounds]; exact K2.out, fun j hj hji => ?_⟩⟩, by simp [intOf]; omega⟩
      by_cases e : j = i
      · subst e
        have e2 : xs[j] = x := (List.getElem?_eq_some_iff.1 HXi.out).2
        refine ⟨_, Array.getElem?_setIfInBounds_self_of_lt (by rw [K2.out]; exact hj), ?_⟩
        rw [e2]
        exact HPt.out.grown hg1 (fun k e => by injection e with e; exact Or.inr e.symm)
      · obtain ⟨u, hu, hp⟩ := K3.out j hj (by omega)
        refine ⟨u, by rw [Array.getElem?_setIfInBounds_ne (fun h => e h.symm)]; exact hu, ?_⟩
        exact ((hp.below HB6.out).grown hg1 (fun k e => by injection e with e; exact Or.inr e.symm))
    · obtain rfl : i = xs.length := by omega
      go_wp2_with fail
      obtain ⟨cs, k1, k2, k3⟩ := HT.out
      have hlf : (fmOf xs).length = xs.length := by simp [fmOf]
      refine bodyPost_ret (v := .tuple #[.slice (some ⟨g, 0, none⟩) xs.length xs.length, .int .i64 0]) (by simp [results, Tryz.results182, go_sem]) rfl ⟨g, rfl, fun w'' hk hz => ⟨_, _, by rw [hlf], by rw [hlf]; exact Nat.le_refl _, by omega, fun _ => ⟨g, 0, rfl, Nat.lt_of_lt_of_le k1.lt hz, fun j hj => ?_⟩⟩, HB.out⟩
      rw [hlf] at hj
      obtain ⟨u, hu, hp⟩ := k3 j hj hj
      have k1' : At w'' g 80 cs := (hk g (by rw [hgd2.out]; exact Nat.le_refl _) k1.lt).trans k1
      refine ⟨u, by rw [Nat.zero_add, k1'.cell j]; exact hu, ?_⟩
      have : paAt (fmOf xs) j = xs[j].l := by rw [paAt_lt (by rw [hlf]; exact hj)]; simp [fmOf]
      rw [this]
      exact (hp.kept (R' := fun _ => False) hz (fun b hb hlt => hk b (Nat.le_of_not_lt (fun q => hb (Or.inl q))) hlt) (fun _ _ h => h.elim)).ints

set_option maxRecDepth 100000 in
set_option maxHeartbeats 4000000 in
theorem gAnswerNo (v : Value) (w : World) : Calls Tryz.prog 182 #[v, .bool false] w fun e w' => e = .returned (.tuple #[.slice none 0 0, .int .i64 4]) ∧ w' = w := by
  go_enter Tryz.func182, Tryz.ntmps182
  go_wp2_with fail
  exact bodyPost_ret (v := .tuple #[.slice none 0 0, .int .i64 4]) (by simp [results, Tryz.results182, go_sem]) rfl ⟨rfl, rfl⟩

end Go.Proofs.YthifbaacmohmnaaGreat
