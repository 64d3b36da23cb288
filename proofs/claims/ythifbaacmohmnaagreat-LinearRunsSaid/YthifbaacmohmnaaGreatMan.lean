/- Joined: FoC, FoE, FoM. -/
import Derived.Test.YthifbaacmohmnaaGreatMam
import Derived.Test.YthifbaacmohmnaaGreatMaj
import Derived.Laws.AppendOwn
import Derived.Laws.OwnMore
import Derived.Maps.AppendAt
import Derived.Lib.AppendZeros
import Derived.Lib.SlicesCompact
import Derived.Test.YthifbaacmohmnaaGreatMak
/- package formula: rows of parts. -/
namespace Go.Proofs.YthifbaacmohmnaaGreat
open Go.RowKit
set_option linter.unusedVariables false
set_option linter.unusedSimpArgs false

/-- A part: where its numbers lie, its mark, its numbers. -/
structure Pt where
  v : Value
  m : Nat
  l : List Int
def encP (x : Pt) : List Value := [x.v, .int .u64 x.m]
def Pt.zero : Pt := ⟨.slice none 0 0, 0, []⟩
instance : Inhabited Pt := ⟨Pt.zero⟩
/-- A part as it should be, whose numbers lie in no block of R. -/
def PtOk (w : World) (R : Nat → Prop) (x : Pt) : Prop :=
  (∃ A c, x.v = .slice A x.l.length c ∧ x.l.length ≤ c ∧ c ≤ 9223372036854775807 ∧ (0 < x.l.length → ∃ b off, A = some ⟨b, off, none⟩ ∧ ¬ R b ∧ b < w.heap.size ∧ ∀ j, j < x.l.length → w.cell? ⟨b, off + j, none⟩ = some (.int .i64 (inAt x.l j)))) ∧
  (Up x.l ∧ ∀ n ∈ x.l, 0 ≤ n ∧ n ≤ 9223372036854775807) ∧ MarkOk x.m x.l
section
variable {w w' : World} {R R' : Nat → Prop} {x : Pt}
theorem PtOk.ints (h : PtOk w R x) : IntsAt w x.v x.l := by
  obtain ⟨⟨A, c, h1, h2, h3, h4⟩, ⟨_, h5⟩, _⟩ := h
  refine ⟨A, c, h1, h2, h3, fun n hn => by have := h5 n hn; unfold IsI; omega, fun h0 => ?_⟩
  obtain ⟨b, off, e, _, r⟩ := h4 h0
  exact ⟨b, off, e, r⟩
theorem PtOk.kept (h : PtOk w R x) (hs : w.heap.size ≤ w'.heap.size) (hk : ∀ b, ¬ R b → b < w.heap.size → w'.heap[b]? = w.heap[b]?) (hR : ∀ b, b < w.heap.size → R' b → R b) : PtOk w' R' x := by
  obtain ⟨⟨A, c, h1, h2, h3, h4⟩, h5, h6⟩ := h
  refine ⟨⟨A, c, h1, h2, h3, fun h0 => ?_⟩, h5, h6⟩
  obtain ⟨b, off, e, hb, hlt, hc⟩ := h4 h0
  refine ⟨b, off, e, fun h => hb (hR b hlt h), Nat.lt_of_lt_of_le hlt hs, fun j hj => ?_⟩
  have := hc j hj
  unfold World.cell? at this ⊢
  rw [hk b hb hlt]; exact this
theorem PtOk.grown {row : Option Nat} (h : PtOk w R x) (hg : w.grownBy w' row) (hr : ∀ k, row = some k → R k) : PtOk w' R x :=
  h.kept hg.size (fun b hb hlt => hg.block b hlt (fun e => hb (hr b e.symm))) (fun _ _ h => h)
theorem PtOk.below (h : PtOk w R x) (hb : Below w.heap.size w w') : PtOk w' R x := h.kept hb.size (fun b _ hlt => hb.block b hlt) (fun _ _ h => h)
theorem PtOk.forget (h : PtOk w R x) (hR : ∀ b, b < w.heap.size → R' b → R b) : PtOk w R' x := h.kept (Nat.le_refl _) (fun _ _ _ => rfl) hR
theorem PtOk.zero (w : World) (R : Nat → Prop) : PtOk w R Pt.zero :=
  ⟨⟨none, 0, rfl, Nat.le_refl _, by omega, fun h => absurd h (Nat.lt_irrefl _)⟩, ⟨List.Pairwise.nil, fun n hn => by cases hn⟩, mark_nil⟩
end
/-- What lies in a row of parts: at place j that which f says, if it says one. -/
def RowF (w : World) (g cap : Nat) (f : Nat → Option Pt) : Prop :=
  ∃ cs, At w g 171 cs ∧ cs.size = cap * 2 ∧ ∀ j x, f j = some x → j < cap ∧ cs[j * 2]? = some x.v ∧ cs[j * 2 + 1]? = some (.int .u64 x.m)
section
variable {w w' : World} {g cap : Nat} {f f' : Nat → Option Pt}
theorem RowF.cell (h : RowF w g cap f) {j : Nat} {x : Pt} (e : f j = some x) : w.cell? ⟨g, j * 2, none⟩ = some x.v ∧ w.cell? ⟨g, j * 2 + 1, none⟩ = some (.int .u64 x.m) := by
  obtain ⟨cs, hA, hs, hc⟩ := h
  obtain ⟨_, h0, h1⟩ := hc j x e
  exact ⟨(hA.cell _).trans h0, (hA.cell _).trans h1⟩
theorem RowF.there (h : RowF w g cap f) {j : Nat} (hj : j < cap) : ∃ u0 u1, w.cell? ⟨g, j * 2, none⟩ = some u0 ∧ w.cell? ⟨g, j * 2 + 1, none⟩ = some u1 := by
  obtain ⟨cs, hA, hs, hc⟩ := h
  exact ⟨_, _, (hA.cell _).trans (Array.getElem?_eq_getElem (by omega)), (hA.cell _).trans (Array.getElem?_eq_getElem (by omega))⟩
theorem RowF.free (h : RowF w g cap f) (i : Nat) : w.frozen? ⟨g, i, none⟩ = false := by obtain ⟨cs, hA, _⟩ := h; exact hA.free i
theorem RowF.lt (h : RowF w g cap f) : g < w.heap.size := by obtain ⟨cs, hA, _⟩ := h; exact hA.lt
theorem RowF.kept (h : RowF w g cap f) (e : w'.heap[g]? = w.heap[g]?) : RowF w' g cap f := by obtain ⟨cs, hA, hr⟩ := h; exact ⟨cs, e.trans hA, hr⟩
theorem RowF.below {B : Nat} (h : RowF w g cap f) (hb : Below B w w') (hg : g < B) : RowF w' g cap f := h.kept (hb.block g hg)
theorem RowF.next (h : RowF w g cap f) (hb : Below w.heap.size w w') : RowF w' g cap f := h.below hb h.lt
theorem RowF.weaken (h : RowF w g cap f) (e : ∀ j x, f' j = some x → f j = some x) : RowF w g cap f' := by obtain ⟨cs, hA, hs, hc⟩ := h; exact ⟨cs, hA, hs, fun j x hx => hc j x (e j x hx)⟩
theorem RowF.put (h : RowF w g cap f) {i : Nat} (hi : i < cap) (x : Pt) :
    RowF ((w.setCell ⟨g, i * 2, none⟩ x.v).setCell ⟨g, i * 2 + 1, none⟩ (.int .u64 x.m)) g cap (fun j => if j = i then some x else f j) := by
  obtain ⟨cs, hA, hs, hc⟩ := h
  refine ⟨_, (hA.set _ _).set _ _, by simp [hs], fun j y hy => ?_⟩
  dsimp only at hy
  by_cases e : j = i
  · subst e
    rw [if_pos rfl] at hy
    injection hy with hy
    subst hy
    refine ⟨hi, ?_, ?_⟩
    · rw [Array.getElem?_setIfInBounds_ne (by omega), Array.getElem?_setIfInBounds_self_of_lt (by omega)]
    · rw [Array.getElem?_setIfInBounds_self_of_lt (by simp; omega)]
  · rw [if_neg e] at hy
    obtain ⟨a, b, c⟩ := hc j y hy
    refine ⟨a, ?_, ?_⟩
    · rw [Array.getElem?_setIfInBounds_ne (by omega), Array.getElem?_setIfInBounds_ne (by omega)]; exact b
    · rw [Array.getElem?_setIfInBounds_ne (by omega), Array.getElem?_setIfInBounds_ne (by omega)]; exact c
end
theorem flatp_len (xs : List Pt) : (xs.flatMap encP).length = xs.length * 2 := by
  induction xs with
  | nil => rfl
  | cons x r ih => rw [List.flatMap_cons, List.length_append, ih]; simp [encP]; omega
theorem flatp_at : ∀ (xs : List Pt) (j : Nat) (h : j < xs.length), (xs.flatMap encP)[j * 2]? = some xs[j].v ∧ (xs.flatMap encP)[j * 2 + 1]? = some (.int .u64 xs[j].m)
  | x :: r, 0, _ => ⟨rfl, rfl⟩
  | x :: r, j + 1, h => by
    have ih := flatp_at r j (by simpa using h)
    rw [List.flatMap_cons]
    rw [show (j + 1) * 2 = 2 + j * 2 by omega, show 2 + j * 2 + 1 = 2 + (j * 2 + 1) by omega]
    rw [List.getElem?_append_right (by simp [encP]), List.getElem?_append_right (by simp [encP])]
    simp only [encP, List.length_cons, List.length_nil, Nat.zero_add, Nat.reduceAdd, Nat.add_sub_cancel_left, List.getElem_cons_succ]
    exact ih
/-- A row of parts of the call's own. -/
def Pts (w : World) (base : Nat) (v : Value) (xs : List Pt) : Prop := w.ownsRow base 171 2 v xs.length (xs.flatMap encP)
theorem RowF.own {w : World} {g cap base : Nat} {f : Nat → Option Pt} (h : RowF w g cap f) (xs : List Pt) (hf : ∀ j (h : j < xs.length), f j = some xs[j]) (hn : xs.length ≤ cap) (hc : cap ≤ maxLen) (hb : base ≤ g) : Pts w base (.slice (some ⟨g, 0, none⟩) xs.length cap) xs := by
  obtain ⟨cs, hA, hs, hr⟩ := h
  refine ⟨flatp_len xs, .inr ⟨g, cap, cs, rfl, hb, hA, hn, hc, hs, ?_⟩⟩
  apply List.ext_getElem?
  intro i
  by_cases hi : i < xs.length * 2
  · rw [List.getElem?_take_of_lt hi, Array.getElem?_toList]
    have hj : i / 2 < xs.length := by omega
    obtain ⟨_, a, b⟩ := hr _ _ (hf (i / 2) hj)
    obtain ⟨a', b'⟩ := flatp_at xs (i / 2) hj
    obtain ⟨k, hk⟩ : ∃ k, i / 2 = k := ⟨_, rfl⟩
    rcases Nat.mod_two_eq_zero_or_one i with e | e
    · obtain rfl : i = k * 2 := by omega
      simp only [hk] at a a'
      exact a.trans a'.symm
    · obtain rfl : i = k * 2 + 1 := by omega
      simp only [hk] at b b'
      exact b.trans b'.symm
  · rw [List.getElem?_eq_none (by rw [List.length_take]; omega), List.getElem?_eq_none (by rw [flatp_len]; omega)]
theorem Pts.row {w : World} {base : Nat} {v : Value} {xs : List Pt} (h : Pts w base v xs) :
    (v = .slice none 0 0 ∧ xs = []) ∨ ∃ g cap, v = .slice (some ⟨g, 0, none⟩) xs.length cap ∧ xs.length ≤ cap ∧ cap ≤ maxLen ∧ base ≤ g ∧ RowF w g cap (fun j => xs[j]?) := by
  obtain ⟨hl, ⟨rfl, h0⟩ | ⟨g, cap, cs, rfl, hb, hA, hn, hc, hs, ht⟩⟩ := h
  · exact .inl ⟨rfl, List.eq_nil_of_length_eq_zero h0⟩
  · refine .inr ⟨g, cap, rfl, hn, hc, hb, cs, hA, hs, fun j x hx => ?_⟩
    obtain ⟨hj, rfl⟩ := List.getElem?_eq_some_iff.1 hx
    obtain ⟨a, b⟩ := flatp_at xs j hj
    refine ⟨by omega, ?_, ?_⟩
    · rw [← a, ← ht, List.getElem?_take_of_lt (by omega), Array.getElem?_toList]
    · rw [← b, ← ht, List.getElem?_take_of_lt (by omega), Array.getElem?_toList]
theorem Pts.nil (w : World) (base : Nat) : Pts w base (.slice none 0 0) [] := World.ownsRow_nil w base _ 2
theorem Pts.low {w : World} {base base' : Nat} {v : Value} {xs : List Pt} (h : Pts w base v xs) (hb : base' ≤ base) : Pts w base' v xs := by
  obtain ⟨hl, h | ⟨g, cap, cs, e, hb', r⟩⟩ := h
  · exact ⟨hl, .inl h⟩
  · exact ⟨hl, .inr ⟨g, cap, cs, e, Nat.le_trans hb hb', r⟩⟩
theorem Pts.next {w w' : World} {base : Nat} {v : Value} {xs : List Pt} (h : Pts w base v xs) (hb : Below w.heap.size w w') : Pts w' base v xs := by
  obtain ⟨hl, h | ⟨g, cap, cs, e, hb', hA, r⟩⟩ := h
  · exact ⟨hl, .inl h⟩
  · exact ⟨hl, .inr ⟨g, cap, cs, e, hb', (hb.block g (At.lt (t := 171) (cs := cs) hA)).trans hA, r⟩⟩
/-- A row of parts, as it is read. -/
def PsAt (w : World) (v : Value) (xs : List Pt) : Prop :=
  (∃ A c, v = .slice A xs.length c ∧ xs.length ≤ c ∧ c ≤ 9223372036854775807 ∧ (0 < xs.length → ∃ g cap, A = some ⟨g, 0, none⟩ ∧ xs.length ≤ cap ∧ RowF w g cap (fun j => xs[j]?))) ∧ ∀ x ∈ xs, PtOk w (fun _ => False) x
section
variable {w w' : World} {v : Value} {xs : List Pt}
theorem PsAt.len {A : Option Addr} {n c : Nat} (h : PsAt w (.slice A n c) xs) : n = xs.length := by obtain ⟨⟨A', c', h1, _⟩, _⟩ := h; injection h1
theorem PsAt.max {A : Option Addr} {n c : Nat} (h : PsAt w (.slice A n c) xs) : xs.length ≤ 9223372036854775807 ∧ xs.length ≤ c ∧ c ≤ 9223372036854775807 := by obtain ⟨⟨A', c', h1, h2, h3, _⟩, _⟩ := h; injection h1 with _ _ e; subst e; omega
theorem PsAt.next (h : PsAt w v xs) (hb : Below w.heap.size w w') : PsAt w' v xs := by
  obtain ⟨⟨A, c, h1, h2, h3, h4⟩, h5⟩ := h
  refine ⟨⟨A, c, h1, h2, h3, fun h0 => ?_⟩, fun x hx => (h5 x hx).below hb⟩
  obtain ⟨g, cap, e, hc, hr⟩ := h4 h0
  exact ⟨g, cap, e, hc, hr.next hb⟩
theorem PsAt.at {A : Option Addr} {n c : Nat} (h : PsAt w (.slice A n c) xs) (j : Nat) (hj : j < xs.length) :
    ∃ g x, A = some ⟨g, 0, none⟩ ∧ g < w.heap.size ∧ xs[j]? = some x ∧ w.cell? ⟨g, j * 2, none⟩ = some x.v ∧ w.cell? ⟨g, j * 2 + 1, none⟩ = some (.int .u64 x.m) ∧ PtOk w (fun _ => False) x := by
  obtain ⟨⟨A', c', h1, h2, h3, h4⟩, h5⟩ := h
  injection h1 with e1 _ _
  subst e1
  obtain ⟨g, cap, e, hc, hr⟩ := h4 (by omega)
  have hx : xs[j]? = some xs[j] := List.getElem?_eq_getElem hj
  obtain ⟨a, b⟩ := hr.cell (j := j) hx
  exact ⟨g, xs[j], e, hr.lt, hx, a, b, h5 _ (List.getElem_mem hj)⟩
theorem Pts.read {base : Nat} (h : Pts w base v xs) (hp : ∀ x ∈ xs, PtOk w (fun _ => False) x) : PsAt w v xs := by
  refine ⟨?_, hp⟩
  rcases h.row with ⟨rfl, rfl⟩ | ⟨g, cap, rfl, hn, hc, _, hr⟩
  · exact ⟨none, 0, rfl, Nat.le_refl _, by omega, fun h => absurd h (Nat.lt_irrefl _)⟩
  · exact ⟨_, cap, rfl, hn, by unfold maxLen at hc; omega, fun _ => ⟨g, cap, rfl, hn, hr⟩⟩
end
def partZero : Array Value := #[.slice none 0 0, .int .u64 0]
theorem info_part : (Tryz.prog.info? 171).map (fun i => (i.zero, i.size, i.bytes)) = some (some (.agg partZero), 2, 32) := by kernel_rfl
theorem make_parts (n : Nat) (hn : n ≤ 4000000) (w : World) : (Instr.makeSlice 138 (.int .i64 (n : Int)) (.int .i64 (n : Int))).run Tryz.prog w = .ok (.slice (some ⟨w.heap.size, 0, none⟩) n n) (w.alloc (.cells (madeCells partZero (n * 2)) 171)) := by
  obtain ⟨i, hi, h0, h1, h2⟩ := info_parts info_part
  have h := run_make (P := Tryz.prog) w 138 171 i _ Tryz.underlying138 hi h0 .i64 .i64 (n : Int) (n : Int) (by omega) (Int.le_refl _) (by rw [h2]; omega) (by omega)
  rw [h1] at h
  simpa [Value.cells] using h
theorem made_parts (w : World) (n : Nat) : RowF (w.alloc (.cells (madeCells partZero (n * 2)) 171)) w.heap.size n (fun _ => none) :=
  ⟨_, At.new _ _ _, by simp [madeCells], fun j x hx => by cases hx⟩
theorem pa_push {ps : List Pt} {i : Nat} (h : ps.length = i) (x : Pt) : ∀ j y, (ps ++ [x])[j]? = some y → (if j = i then some x else ps[j]?) = some y := by
  intro j y hy
  subst h
  by_cases e : j = ps.length
  · subst e; rw [if_pos rfl]; simpa using hy
  · rw [if_neg e]
    have hj : j < ps.length := by
      have := (List.getElem?_eq_some_iff.1 hy).1
      simp at this; omega
    rwa [List.getElem?_append_left hj] at hy
theorem IntsAt.pt {w : World} {A : Option Addr} {c : Nat} {l : List Int} (h : IntsAt w (.slice A l.length c) l) (hu : Up l) (h0 : ∀ x ∈ l, 0 ≤ x) {m : Nat} (hm : MarkOk m l) {R : Nat → Prop} (hR : ∀ b, b < w.heap.size → ¬ R b) : PtOk w R ⟨.slice A l.length c, m, l⟩ := by
  obtain ⟨A', c', e, h2, h3, h4, h5⟩ := h
  injection e with e1 _ e3
  subst e1 e3
  refine ⟨⟨A, c, rfl, h2, h3, fun h0 => ?_⟩, ⟨hu, fun n hn => ⟨h0 n hn, (h4 n hn).2⟩⟩, hm⟩
  obtain ⟨b, off, e, hb, r⟩ := h5 h0
  exact ⟨b, off, e, hR b hb, hb, r⟩

theorem grown2 (w : World) (g o o' : Nat) (v v' : Value) : w.grownBy ((w.setCell ⟨g, o, none⟩ v).setCell ⟨g, o', none⟩ v') (some g) :=
  ⟨rfl, rfl, rfl, by simp [World.setCell], fun k hk hne => by
    have h : k ≠ g := fun e => hne (by rw [e])
    exact (Below.heap_setCell _ ⟨g, o', none⟩ v' k h).trans (Below.heap_setCell _ ⟨g, o, none⟩ v k h)⟩

set_option maxRecDepth 100000 in
set_option maxHeartbeats 4000000 in
theorem fPartsOf (f : Fm) (A : Option Addr) (n c : Nat) (w : World) (h : FmAt w (.slice A n c) f) (hn : f.length ≤ 4000000) (hu : ∀ p ∈ f, Up p ∧ ∀ x ∈ p, 0 ≤ x) :
    Calls Tryz.prog 101 #[.slice A n c] w fun e w' => ∃ v ps, e = .returned v ∧ Pts w' w.heap.size v ps ∧ (∀ x ∈ ps, PtOk w' (fun b => w.heap.size ≤ b) x) ∧ ps.map (·.l) = f ∧ Below w.heap.size w w' := by
  have HI := Lib.hid h
  have hm := h.max
  obtain rfl := h.len
  have HU := Lib.hid hu
  have hmk := make_parts f.length hn
  have hR0 := made_parts w f.length
  have hB0 : Below w.heap.size w (w.alloc (.cells (madeCells partZero (f.length * 2)) 171)) := (Below.refl _ _).alloc (Nat.le_refl _) _
  clear h hu
  go_enter Tryz.func101, Tryz.ntmps101
  go_wp2_with fail
  clear hmk
  generalize w.alloc (.cells (madeCells partZero (f.length * 2)) 171) = W at hB0 hR0 ⊢
  go_loopw [11] (fun v wr => ∃ (i : Nat), i ≤ f.length ∧ v = .int .i64 i ∧ Hid (Below w.heap.size w wr) ∧ Hid (∃ ps : List Pt, RowF wr w.heap.size f.length (fun j => ps[j]?) ∧ (∀ x ∈ ps, PtOk wr (fun b => w.heap.size ≤ b) x) ∧ ps.map (·.l) = f.take i)) (fun v _ => f.length - (intOf v).toNat)
  case atStart => exact ⟨0, Nat.zero_le _, rfl, Lib.hid hB0, Lib.hid ⟨[], hR0.weaken (fun j x hx => by simp at hx), (fun x hx => by cases hx), rfl⟩⟩
  case round =>
    obtain ⟨i, hi, rfl, HB, HP⟩ := hrel
    by_cases hlt : i < f.length
    · have h1 : (0 : Int) ≤ (i : Int) := by omega
      have h2 : (i : Int) < (f.length : Int) := by omega
      obtain ⟨b, off, A2, c2, rfl, hbl, q0, hp⟩ := HI.out.at i hlt
      have q1 := ((bcell HB.out).1 b (off + i) hbl).trans q0
      have HJ := Lib.hid (hp.next HB.out)
      have HO := Lib.hid hp
      clear q0 hp
      have hmem : paAt f i ∈ f := by rw [paAt_lt hlt]; exact List.getElem_mem hlt
      have htk := Lib.hid (take_step f i hlt)
      go_wp2_with fail
      refine (fPartOf (paAt f i) A2 _ c2 _ HJ.out (HU.out _ hmem).2).mono ?_
      rintro e w3 ⟨m, rfl, hmk, hb3⟩
      have HM := Lib.hid hmk
      have HB3 := Lib.hid hb3
      have HB4 := Lib.hid (HB.out.trans (hb3.mono HB.out.size))
      have hlt3 : Hid (wr.heap.size ≤ w3.heap.size) := Lib.hid hb3.size
      obtain ⟨ps, a1, a2, a3⟩ := HP.out
      have hl : ps.length = i := by rw [← List.length_map (f := (·.l)), a3, List.length_take]; omega
      have a1' := Lib.hid (a1.next hb3)
      obtain ⟨u0, u1, c0, c1⟩ := a1'.out.there hlt
      have f0 := a1'.out.free (i * 2)
      have f1 := a1'.out.free (i * 2 + 1)
      have A2' := Lib.hid a2
      have A3 := Lib.hid a3
      have HL := Lib.hid hl
      clear hmk hb3 a1 a2 a3 hl
      go_wp2_with fail
      obtain ⟨hu, h0⟩ := HU.out _ hmem
      have hx : PtOk w (fun b => w.heap.size ≤ b) ⟨.slice A2 (paAt f i).length c2, m, paAt f i⟩ := HO.out.pt hu h0 HM.out (fun b hb h => by omega)
      have hg := grown2 w3 w.heap.size (i * 2) (i * 2 + 1) (.slice A2 (paAt f i).length c2) (.int .u64 m)
      have hl := HL.out
      refine ⟨⟨i + 1, by omega, by go_num, Lib.hid ?_, Lib.hid ⟨ps ++ [⟨.slice A2 (paAt f i).length c2, m, paAt f i⟩], ?_, ?_, ?_⟩⟩, by simp [intOf]; omega⟩
      · exact (HB4.out.setCell (p := ⟨w.heap.size, i * 2, none⟩) (Nat.le_refl _) _).setCell (p := ⟨w.heap.size, i * 2 + 1, none⟩) (Nat.le_refl _) _
      · exact (a1'.out.put hlt ⟨.slice A2 (paAt f i).length c2, m, paAt f i⟩).weaken (pa_push hl _)
      · intro x hx'
        rcases List.mem_append.1 hx' with h | h
        · exact ((A2'.out x h).below HB3.out).grown hg (fun k e => by injection e with e; subst e; exact Nat.le_refl _)
        · rw [List.mem_singleton.1 h]
          exact (hx.below HB4.out).grown hg (fun k e => by injection e with e; subst e; exact Nat.le_refl _)
      · rw [List.map_append, A3.out, htk.out, ← paAt_lt hlt]; rfl
    · obtain rfl : i = f.length := by omega
      go_wp2_with fail
      go_ret
      obtain ⟨ps, a1, a2, a3⟩ := HP.out
      rw [List.take_length] at a3
      have hl : ps.length = f.length := by rw [← a3, List.length_map]
      refine ⟨_, ps, rfl, ?_, a2, a3, HB.out⟩
      have := a1.own ps (fun j h => List.getElem?_eq_getElem h) (by omega) (by unfold maxLen; omega) (Nat.le_refl _)
      rwa [hl] at this

end Go.Proofs.YthifbaacmohmnaaGreat

/- package formula: append of any row; slices.Grow of nil, slices.Concat, of whole numbers and of parts. -/
namespace Go.Proofs.YthifbaacmohmnaaGreat
open Go.RowKit
set_option linter.unusedVariables false
set_option linter.unusedSimpArgs false

/-- A slice that is read: m elements of sz cells, ys. -/
def Src (w : World) (sz : Nat) (v : Value) (m : Nat) (ys : List Value) : Prop :=
  ∃ A c, v = .slice A m c ∧ m ≤ c ∧ c ≤ 9223372036854775807 ∧ ys.length = m * sz ∧ (∀ u ∈ ys, u.oneCell' = true) ∧ (0 < m → ∃ b off, A = some ⟨b, off, none⟩ ∧ b < w.heap.size ∧ ∀ j u, ys[j]? = some u → w.cell? ⟨b, off + j, none⟩ = some u)
theorem Src.next {w w' : World} {sz : Nat} {v : Value} {m : Nat} {ys : List Value} (h : Src w sz v m ys) (hb : Below w.heap.size w w') : Src w' sz v m ys := by
  obtain ⟨A, c, h1, h2, h3, h4, h5, h6⟩ := h
  refine ⟨A, c, h1, h2, h3, h4, h5, fun h0 => ?_⟩
  obtain ⟨b, off, e, hlt, r⟩ := h6 h0
  exact ⟨b, off, e, Nat.lt_of_lt_of_le hlt hb.size, fun j u hu => ((bcell hb).1 b _ hlt).trans (r j u hu)⟩
theorem IntsAt.src {w : World} {v : Value} {l : List Int} (h : IntsAt w v l) : Src w 1 v l.length (l.map (Value.int .i64)) := by
  obtain ⟨A, c, h1, h2, h3, _, h5⟩ := h
  refine ⟨A, c, h1, h2, h3, by simp, fun u hu => ?_, fun h0 => ?_⟩
  · obtain ⟨x, _, rfl⟩ := List.mem_map.1 hu; rfl
  · obtain ⟨b, off, e, hlt, r⟩ := h5 h0
    refine ⟨b, off, e, hlt, fun j u hu => ?_⟩
    rw [List.getElem?_map] at hu
    obtain ⟨x, hx, rfl⟩ := Option.map_eq_some_iff.1 hu
    obtain ⟨hj, rfl⟩ := List.getElem?_eq_some_iff.1 hx
    rw [r j hj, inAt_lt hj]
theorem PtOk.one {w : World} {R : Nat → Prop} {x : Pt} (h : PtOk w R x) : x.v.oneCell' = true := by obtain ⟨⟨A, c, e, _⟩, _⟩ := h; rw [e]; rfl
theorem flatp_one {xs : List Pt} (h : ∀ x ∈ xs, x.v.oneCell' = true) : ∀ u ∈ xs.flatMap encP, u.oneCell' = true := by
  intro u hu
  obtain ⟨x, hx, hu⟩ := List.mem_flatMap.1 hu
  simp only [encP, List.mem_cons, List.not_mem_nil, or_false] at hu
  rcases hu with rfl | rfl
  · exact h x hx
  · rfl
theorem PsAt.src {w : World} {v : Value} {xs : List Pt} (h : PsAt w v xs) : Src w 2 v xs.length (xs.flatMap encP) := by
  obtain ⟨⟨A, c, h1, h2, h3, h5⟩, h4⟩ := h
  refine ⟨A, c, h1, h2, h3, flatp_len xs, flatp_one (fun x hx => (h4 x hx).one), fun h0 => ?_⟩
  obtain ⟨g, cap, e, hc, hr⟩ := h5 h0
  refine ⟨g, 0, e, hr.lt, fun j u hu => ?_⟩
  have hj : j < xs.length * 2 := by rw [← flatp_len]; exact (List.getElem?_eq_some_iff.1 hu).1
  have hk : j / 2 < xs.length := by omega
  obtain ⟨a, b⟩ := hr.cell (j := j / 2) (List.getElem?_eq_getElem hk)
  obtain ⟨a', b'⟩ := flatp_at xs (j / 2) hk
  obtain ⟨k, hkk⟩ : ∃ k, j / 2 = k := ⟨_, rfl⟩
  rw [Nat.zero_add]
  rcases Nat.mod_two_eq_zero_or_one j with e | e
  · obtain rfl : j = k * 2 := by omega
    simp only [hkk] at a a'
    rw [a, ← a', hu]
  · obtain rfl : j = k * 2 + 1 := by omega
    simp only [hkk] at b b'
    rw [b, ← b', hu]
set_option maxRecDepth 100000 in
/-- append of a slice to a row of the call's own. -/
theorem append_src {T E : TypeId} {i : TypeInfo} {z : Value} {sz bytes : Nat} (hT : Tryz.prog.underlying T = some (.slice E)) (hi : Tryz.prog.info? E = some i) (hz : i.zero = some z) (hsz : i.size = sz) (hby : i.bytes = bytes) (hzs : z.cells.size = sz) (hs0 : 0 < sz) (hb64 : bytes ≤ 64)
    (w : World) (base : Nat) (v : Value) (n : Nat) (xs : List Value) (u : Value) (m : Nat) (ys : List Value) (ty : TypeId) (h6 : w.ownsRow base E sz v n xs) (hbw : base ≤ w.heap.size) (hI : Src w sz u m ys) (hl : n + m ≤ 1000000000) :
    ∃ v' w', (Builtin.append_ #[T, T] ty #[v, u]).run Tryz.prog w = .ok v' w' ∧ w'.ownsRow base E sz v' (n + m) (xs ++ ys) ∧ w.grownBy w' v.ownBlock ∧ (v'.ownBlock = v.ownBlock ∨ v'.ownBlock = some w.heap.size) := by
  obtain ⟨A, c, rfl, h2, _, h4, h1, h3⟩ := hI
  cases A with
  | none =>
    have h0 : m = 0 := by
      by_cases h0 : 0 < m
      · obtain ⟨b, off, e, _⟩ := h3 h0; cases e
      · omega
    subst h0
    have hy : ys = [] := List.eq_nil_of_length_eq_zero (by omega)
    subst hy
    have hr : (Builtin.append_ #[T, T] ty #[v, .slice none 0 c]).run Tryz.prog w = .ok v w := run_append_owned_none (P := Tryz.prog) (w := w) base T ty E i sz hT hi v n xs h6
    exact ⟨v, w, hr, by rw [List.append_nil]; exact h6, ⟨rfl, rfl, rfl, Nat.le_refl _, fun _ _ _ => rfl⟩, .inl rfl⟩
  | some ad =>
    obtain ⟨v', w', hr, q2, q3, _, q5⟩ := run_append_own_at (P := Tryz.prog) w base T ty E i z sz bytes hT hi hz hsz hby hzs hs0 v n xs h6 ad m c ys h4 (fun j u hu => by
      have hm : 0 < m := by
        by_cases h0 : 0 < m
        · exact h0
        · have := (List.getElem?_eq_some_iff.1 hu).1
          have : m * sz = 0 := by rw [show m = 0 by omega, Nat.zero_mul]
          omega
      obtain ⟨b, off, e, _, hc⟩ := h3 hm
      injection e with e
      subst e
      rw [show (⟨b, off, none⟩ : Addr).add j = ⟨b, off + j, none⟩ by unfold Addr.add; split <;> simp_all]
      exact hc j u hu) h1 (by unfold maxLen; omega) (by have := Nat.mul_le_mul hl hb64; omega) hbw
    exact ⟨v', w', hr, q2, q3, q5⟩
/-- A row of slices, each of elements of sz cells. -/
def SrcsAt (w : World) (sz : Nat) (v : Value) (ss : List (Nat × List Value)) : Prop :=
  ∃ A c, v = .slice A ss.length c ∧ ss.length ≤ c ∧ c ≤ 9223372036854775807 ∧ (0 < ss.length → ∃ b off, A = some ⟨b, off, none⟩ ∧ b < w.heap.size ∧ ∀ j (h : j < ss.length), ∃ u, w.cell? ⟨b, off + j, none⟩ = some u ∧ Src w sz u ss[j].1 ss[j].2)
theorem SrcsAt.next {w w' : World} {sz : Nat} {v : Value} {ss : List (Nat × List Value)} (h : SrcsAt w sz v ss) (hb : Below w.heap.size w w') : SrcsAt w' sz v ss := by
  obtain ⟨A, c, h1, h2, h3, h6⟩ := h
  refine ⟨A, c, h1, h2, h3, fun h0 => ?_⟩
  obtain ⟨b, off, e, hlt, r⟩ := h6 h0
  refine ⟨b, off, e, Nat.lt_of_lt_of_le hlt hb.size, fun j hj => ?_⟩
  obtain ⟨u, hu, hs⟩ := r j hj
  exact ⟨u, ((bcell hb).1 b _ hlt).trans hu, hs.next hb⟩
theorem SrcsAt.at {w : World} {sz : Nat} {A : Option Addr} {n c : Nat} {ss : List (Nat × List Value)} (h : SrcsAt w sz (.slice A n c) ss) (j : Nat) (hj : j < ss.length) :
    ∃ b off B m d, A = some ⟨b, off, none⟩ ∧ b < w.heap.size ∧ w.cell? ⟨b, off + j, none⟩ = some (.slice B m d) ∧ m = ss[j].1 ∧ Src w sz (.slice B m d) ss[j].1 ss[j].2 := by
  obtain ⟨A', c', e, h2, h3, h4⟩ := h
  injection e with e1 _ _
  subst e1
  obtain ⟨b, off, e, hb, r⟩ := h4 (by omega)
  obtain ⟨u, hu, hs⟩ := r j hj
  obtain ⟨B, d, rfl, _⟩ := id hs
  exact ⟨b, off, B, _, d, e, hb, hu, rfl, hs⟩
theorem SrcsAt.len {w : World} {sz : Nat} {A : Option Addr} {n c : Nat} {ss : List (Nat × List Value)} (h : SrcsAt w sz (.slice A n c) ss) : n = ss.length ∧ ss.length ≤ c ∧ c ≤ 9223372036854775807 := by
  obtain ⟨A', c', e, h2, h3, h4⟩ := h
  injection e with _ e2 e3
  subst e2 e3
  exact ⟨rfl, h2, h3⟩
def sumE (ss : List (Nat × List Value)) : Nat := (ss.map (·.1)).sum
def catS (ss : List (Nat × List Value)) : List Value := (ss.map (·.2)).flatten
theorem sum_take {ss : List (Nat × List Value)} {i : Nat} (h : i < ss.length) : sumE (ss.take (i + 1)) = sumE (ss.take i) + ss[i].1 := by
  unfold sumE; rw [take_step ss i h, List.map_append, List.sum_append]; simp
theorem cat_take {ss : List (Nat × List Value)} {i : Nat} (h : i < ss.length) : catS (ss.take (i + 1)) = catS (ss.take i) ++ ss[i].2 := by
  unfold catS; rw [take_step ss i h, List.map_append, List.flatten_append]; simp
theorem sum_le {ss : List (Nat × List Value)} (i : Nat) : sumE (ss.take i) ≤ sumE ss := by
  conv => rhs; rw [← List.take_append_drop i ss]
  unfold sumE; rw [List.map_append, List.sum_append]; omega
theorem FmAt.srcs {w : World} {v : Value} {f : Fm} (h : FmAt w v f) : SrcsAt w 1 v (f.map (fun p => (p.length, p.map (Value.int .i64)))) := by
  obtain ⟨A, c, h1, h2, h3, h4⟩ := h
  refine ⟨A, c, by rw [List.length_map]; exact h1, by rw [List.length_map]; exact h2, h3, fun h0 => ?_⟩
  rw [List.length_map] at h0
  obtain ⟨b, off, e, hb, r⟩ := h4 h0
  refine ⟨b, off, e, hb, fun j hj => ?_⟩
  rw [List.length_map] at hj
  obtain ⟨u, hu, hi⟩ := r j hj
  refine ⟨u, hu, ?_⟩
  rw [List.getElem_map, ← paAt_lt hj]
  exact hi.src
theorem fm_sum (f : Fm) : sumE (f.map (fun p => (p.length, p.map (Value.int .i64)))) = f.flatten.length := by
  unfold sumE; rw [List.map_map, List.length_flatten]; rfl
theorem fm_cat (f : Fm) : catS (f.map (fun p => (p.length, p.map (Value.int .i64)))) = f.flatten.map (Value.int .i64) := by
  unfold catS; rw [List.map_map, List.map_flatten]; rfl
theorem info_int1 : (Tryz.prog.info? 3).map (fun i => (i.zero, i.size, i.bytes)) = some (some (.int .i64 0), 1, 8) := by kernel_rfl

set_option maxRecDepth 100000 in
set_option maxHeartbeats 4000000 in
theorem fGrowI (n : Nat) (w : World) (hn : n ≤ 4000000) : Calls Tryz.prog 206 #[.slice none 0 0, .int .i64 n] w fun e w' => ∃ v, e = .returned v ∧ w'.ownsRow w.heap.size 3 1 v 0 [] ∧ Below w.heap.size w w' := by
  go_enter Tryz.func206, Tryz.ntmps206
  have h1 : ¬ ((n : Int) < 0) := by omega
  by_cases h0 : 0 < n
  · have h2 : (n : Int) > 0 := by omega
    obtain ⟨i, hi, hz, hs, hby⟩ := info_parts info_int1
    have hr := fun ty => Lib.run_append_nil_zeros (P := Tryz.prog) w 80 3 ty 3 i _ .i64 .i64 Tryz.underlying80 Tryz.underlying3 hi hz n h0 (by omega) (by omega) (by rw [hby]; omega)
    have hge := grownCap_ge w n 0 3
    have hle := grownCap_le_maxLen w n 0 3 (by unfold maxLen; omega)
    obtain ⟨G, hG⟩ : ∃ G, grownCap w n 0 3 = G := ⟨_, rfl⟩
    rw [hG] at hr hge hle
    have hG63 : G ≤ 9223372036854775807 := by unfold maxLen at hle; omega
    have HLE := Lib.hid hle
    have HS := Lib.hid hs
    have HZ := Lib.hid hz
    clear hG hle hi hz hs hby
    have hn2 : (0 : Int) ≤ (n : Int) := by omega
    go_wp2_with (at_builtin; refine Lib.wpList_append_run _ rfl _ _ _ _ rfl _ _ rfl rfl _ _ (hr _) ?_)
    go_ret
    refine ⟨_, rfl, ?_, ((Below.refl _ w).drew).alloc (Nat.le_refl _) _⟩
    refine World.ownsRow_made w.drew _ _ (Nat.le_refl _) HLE.out ?_
    rw [Array.size_append, size_zeroCells, size_zeroCells, ← Nat.add_mul]
    simp [Value.cells]
    omega
  · obtain rfl : n = 0 := by omega
    go_wp2_with fail
    go_ret
    exact ⟨_, rfl, World.ownsRow_nil _ _ _ _, Below.refl _ _⟩

set_option maxRecDepth 100000 in
set_option maxHeartbeats 4000000 in
theorem fConcatI (ss : List (Nat × List Value)) (A : Option Addr) (n c : Nat) (w : World) (h : SrcsAt w 1 (.slice A n c) ss) (hl : sumE ss ≤ 4000000) :
    Calls Tryz.prog 185 #[.slice A n c] w fun e w' => ∃ v, e = .returned v ∧ w'.ownsRow w.heap.size 3 1 v (sumE ss) (catS ss) ∧ Below w.heap.size w w' := by
  have HI := Lib.hid h
  obtain ⟨hn, hc1, hc2⟩ := h.len
  subst hn
  have HL := Lib.hid hl
  clear h hl
  go_enter Tryz.func185, Tryz.ntmps185
  go_wp2_with fail
  go_loopw [3, 11] (fun u v wr => ∃ i s : Nat, i ≤ ss.length ∧ v = .int .i64 i ∧ u = .int .i64 s ∧ w = wr ∧ Hid (s = sumE (ss.take i))) (fun _ v _ => ss.length - (intOf v).toNat)
  case atStart => exact ⟨0, 0, Nat.zero_le _, rfl, rfl, rfl, Lib.hid rfl⟩
  case round =>
    obtain ⟨i, s, hi, rfl, rfl, rfl, HN⟩ := hrel
    have hs4 : s ≤ 4000000 := by have := sum_le (ss := ss) i; have := HL.out; have := HN.out; omega
    by_cases hlt : i < ss.length
    · have h1 : (0 : Int) ≤ (i : Int) := by omega
      have h2 : (i : Int) < (ss.length : Int) := by omega
      obtain ⟨b, off, B, m, d, rfl, _, q1, hm, _⟩ := HI.out.at i hlt
      have hst := Lib.hid (sum_take hlt)
      rw [← hm] at hst
      have hs5 : s + m ≤ 4000000 := by have := sum_le (ss := ss) (i + 1); have := HL.out; have := HN.out; have := hst.out; omega
      have HM := Lib.hid hm
      clear hm
      have h3 : ¬ ((s : Int) + (m : Int) < 0) := by omega
      go_wp2_with fail
      refine ⟨⟨i + 1, s + m, by omega, by go_num, by go_num, by first | rfl | trivial, Lib.hid (by rw [hst.out, HN.out])⟩, by simp [intOf]; omega⟩
    · obtain rfl : i = ss.length := by omega
      have HS : Hid (s = sumE ss) := Lib.hid (by have := HN.out; rwa [List.take_length] at this)
      go_wp2_with fail
      refine (fGrowI s _ hs4).mono ?_
      rintro e w3 ⟨v3, rfl, hown, hb3⟩
      have HO := Lib.hid hown
      have HB := Lib.hid hb3
      clear hown hb3
      go_wp2_with fail
      go_loopw [6, 27] (fun u v wr => ∃ i s : Nat, i ≤ ss.length ∧ v = .int .i64 i ∧ Hid (wr.ownsRow w.heap.size 3 1 u s (catS (ss.take i))) ∧ Hid (s = sumE (ss.take i)) ∧ Hid (Below w.heap.size w wr)) (fun _ v _ => ss.length - (intOf v).toNat)
      case atStart => exact ⟨0, 0, Nat.zero_le _, rfl, HO, Lib.hid rfl, HB⟩
      case round =>
        obtain ⟨i, s2, hi2, rfl, HO, HN2, HB⟩ := hrel
        by_cases hlt : i < ss.length
        · have h1 : (0 : Int) ≤ (i : Int) := by omega
          have h2 : (i : Int) < (ss.length : Int) := by omega
          obtain ⟨b, off, B, m, d, rfl, _, q1, hm, hsrc⟩ := (HI.out.next HB.out).at i hlt
          have hst := Lib.hid (sum_take hlt)
          have hct := Lib.hid (cat_take hlt)
          have hle : s2 + ss[i].1 ≤ 4000000 := by have := sum_le (ss := ss) (i + 1); have := HL.out; have := HN2.out; have := hst.out; omega
          obtain ⟨ti, hti, htz, hts, htb⟩ := info_parts info_int1
          obtain ⟨v', w', hr, o1, o2, _⟩ := append_src (T := 80) (E := 3) Tryz.underlying80 hti htz hts htb rfl (by decide) (by decide) _ w.heap.size _ s2 _ _ _ _ 80 HO.out HB.out.size hsrc (Nat.le_trans hle (by decide))
          have hlow := World.ownsRow.lt HO.out
          have O1 := Lib.hid o1
          have O2 := Lib.hid (below_gr HB.out HB.out.size o2 (fun k e => (hlow k e).1))
          have HR := Lib.hid hr
          have HM := Lib.hid hm
          clear o1 o2 hr hlow hti htz hts htb hsrc hm hle
          go_wp2_with (first | (at_builtin; refine Lib.wpList_append_run _ rfl _ _ _ _ rfl _ _ rfl rfl v' w' HR.out ?_) | fail)
          refine ⟨⟨i + 1, s2 + ss[i].1, by omega, by go_num, Lib.hid (by rw [hct.out]; exact O1.out), Lib.hid (by rw [hst.out, HN2.out]), O2⟩, by simp [intOf]; omega⟩
        · obtain rfl : i = ss.length := by omega
          go_wp2_with fail
          go_ret
          have hO := HO.out
          have hN := HN2.out
          rw [List.take_length] at hO hN
          rw [hN] at hO
          exact ⟨_, rfl, hO, HB.out⟩

set_option maxRecDepth 100000 in
set_option maxHeartbeats 4000000 in
theorem fGrowP (n : Nat) (w : World) (hn : n ≤ 4000000) : Calls Tryz.prog 204 #[.slice none 0 0, .int .i64 n] w fun e w' => ∃ v, e = .returned v ∧ w'.ownsRow w.heap.size 171 2 v 0 [] ∧ Below w.heap.size w w' := by
  go_enter Tryz.func204, Tryz.ntmps204
  have h1 : ¬ ((n : Int) < 0) := by omega
  by_cases h0 : 0 < n
  · have h2 : (n : Int) > 0 := by omega
    obtain ⟨i, hi, hz, hs, hby⟩ := info_parts info_part
    have hr := fun ty => Lib.run_append_nil_zeros (P := Tryz.prog) w 138 3 ty 171 i _ .i64 .i64 Tryz.underlying138 Tryz.underlying3 hi hz n h0 (by omega) (by omega) (by rw [hby]; omega)
    have hge := grownCap_ge w n 0 171
    have hle := grownCap_le_maxLen w n 0 171 (by unfold maxLen; omega)
    obtain ⟨G, hG⟩ : ∃ G, grownCap w n 0 171 = G := ⟨_, rfl⟩
    rw [hG] at hr hge hle
    have hG63 : G ≤ 9223372036854775807 := by unfold maxLen at hle; omega
    have HLE := Lib.hid hle
    have HS := Lib.hid hs
    have HZ := Lib.hid hz
    clear hG hle hi hz hs hby
    have hn2 : (0 : Int) ≤ (n : Int) := by omega
    go_wp2_with (at_builtin; refine Lib.wpList_append_run _ rfl _ _ _ _ rfl _ _ rfl rfl _ _ (hr _) ?_)
    go_ret
    refine ⟨_, rfl, ?_, ((Below.refl _ w).drew).alloc (Nat.le_refl _) _⟩
    refine World.ownsRow_made w.drew _ _ (Nat.le_refl _) HLE.out ?_
    rw [Array.size_append, size_zeroCells, size_zeroCells, ← Nat.add_mul]
    simp [Value.cells, partZero]
    omega
  · obtain rfl : n = 0 := by omega
    go_wp2_with fail
    go_ret
    exact ⟨_, rfl, World.ownsRow_nil _ _ _ _, Below.refl _ _⟩

set_option maxRecDepth 100000 in
set_option maxHeartbeats 4000000 in
theorem fConcatP (ss : List (Nat × List Value)) (A : Option Addr) (n c : Nat) (w : World) (h : SrcsAt w 2 (.slice A n c) ss) (hl : sumE ss ≤ 4000000) :
    Calls Tryz.prog 181 #[.slice A n c] w fun e w' => ∃ v, e = .returned v ∧ w'.ownsRow w.heap.size 171 2 v (sumE ss) (catS ss) ∧ Below w.heap.size w w' := by
  have HI := Lib.hid h
  obtain ⟨hn, hc1, hc2⟩ := h.len
  subst hn
  have HL := Lib.hid hl
  clear h hl
  go_enter Tryz.func181, Tryz.ntmps181
  go_wp2_with fail
  go_loopw [3, 11] (fun u v wr => ∃ i s : Nat, i ≤ ss.length ∧ v = .int .i64 i ∧ u = .int .i64 s ∧ w = wr ∧ Hid (s = sumE (ss.take i))) (fun _ v _ => ss.length - (intOf v).toNat)
  case atStart => exact ⟨0, 0, Nat.zero_le _, rfl, rfl, rfl, Lib.hid rfl⟩
  case round =>
    obtain ⟨i, s, hi, rfl, rfl, rfl, HN⟩ := hrel
    have hs4 : s ≤ 4000000 := by have := sum_le (ss := ss) i; have := HL.out; have := HN.out; omega
    by_cases hlt : i < ss.length
    · have h1 : (0 : Int) ≤ (i : Int) := by omega
      have h2 : (i : Int) < (ss.length : Int) := by omega
      obtain ⟨b, off, B, m, d, rfl, _, q1, hm, _⟩ := HI.out.at i hlt
      have hst := Lib.hid (sum_take hlt)
      rw [← hm] at hst
      have hs5 : s + m ≤ 4000000 := by have := sum_le (ss := ss) (i + 1); have := HL.out; have := HN.out; have := hst.out; omega
      have HM := Lib.hid hm
      clear hm
      have h3 : ¬ ((s : Int) + (m : Int) < 0) := by omega
      go_wp2_with fail
      refine ⟨⟨i + 1, s + m, by omega, by go_num, by go_num, by first | rfl | trivial, Lib.hid (by rw [hst.out, HN.out])⟩, by simp [intOf]; omega⟩
    · obtain rfl : i = ss.length := by omega
      have HS : Hid (s = sumE ss) := Lib.hid (by have := HN.out; rwa [List.take_length] at this)
      go_wp2_with fail
      refine (fGrowP s _ hs4).mono ?_
      rintro e w3 ⟨v3, rfl, hown, hb3⟩
      have HO := Lib.hid hown
      have HB := Lib.hid hb3
      clear hown hb3
      go_wp2_with fail
      go_loopw [6, 27] (fun u v wr => ∃ i s : Nat, i ≤ ss.length ∧ v = .int .i64 i ∧ Hid (wr.ownsRow w.heap.size 171 2 u s (catS (ss.take i))) ∧ Hid (s = sumE (ss.take i)) ∧ Hid (Below w.heap.size w wr)) (fun _ v _ => ss.length - (intOf v).toNat)
      case atStart => exact ⟨0, 0, Nat.zero_le _, rfl, HO, Lib.hid rfl, HB⟩
      case round =>
        obtain ⟨i, s2, hi2, rfl, HO, HN2, HB⟩ := hrel
        by_cases hlt : i < ss.length
        · have h1 : (0 : Int) ≤ (i : Int) := by omega
          have h2 : (i : Int) < (ss.length : Int) := by omega
          obtain ⟨b, off, B, m, d, rfl, _, q1, hm, hsrc⟩ := (HI.out.next HB.out).at i hlt
          have hst := Lib.hid (sum_take hlt)
          have hct := Lib.hid (cat_take hlt)
          have hle : s2 + ss[i].1 ≤ 4000000 := by have := sum_le (ss := ss) (i + 1); have := HL.out; have := HN2.out; have := hst.out; omega
          obtain ⟨ti, hti, htz, hts, htb⟩ := info_parts info_part
          obtain ⟨v', w', hr, o1, o2, _⟩ := append_src (T := 138) (E := 171) Tryz.underlying138 hti htz hts htb rfl (by decide) (by decide) _ w.heap.size _ s2 _ _ _ _ 138 HO.out HB.out.size hsrc (Nat.le_trans hle (by decide))
          have hlow := World.ownsRow.lt HO.out
          have O1 := Lib.hid o1
          have O2 := Lib.hid (below_gr HB.out HB.out.size o2 (fun k e => (hlow k e).1))
          have HR := Lib.hid hr
          have HM := Lib.hid hm
          clear o1 o2 hr hlow hti htz hts htb hsrc hm hle
          go_wp2_with (first | (at_builtin; refine Lib.wpList_append_run _ rfl _ _ _ _ rfl _ _ rfl rfl v' w' HR.out ?_) | fail)
          refine ⟨⟨i + 1, s2 + ss[i].1, by omega, by go_num, Lib.hid (by rw [hct.out]; exact O1.out), Lib.hid (by rw [hst.out, HN2.out]), O2⟩, by simp [intOf]; omega⟩
        · obtain rfl : i = ss.length := by omega
          go_wp2_with fail
          go_ret
          have hO := HO.out
          have hN := HN2.out
          rw [List.take_length] at hO hN
          rw [hN] at hO
          exact ⟨_, rfl, hO, HB.out⟩

end Go.Proofs.YthifbaacmohmnaaGreat

/- package formula: mathematics: what is left of a sorted list where neighbours that are equal go; what the least parts are. No program is walked here. -/
namespace Go.Proofs.YthifbaacmohmnaaGreat
open Go.RowKit
set_option linter.unusedVariables false
set_option linter.unusedSimpArgs false

section
variable {α κ : Type} [Inhabited α] [DecidableEq κ] (key : α → κ)
/-- Place j of d is kept: it is the first, or has another key than the place before it. -/
def keepsB (d : Array α) (j : Nat) : Bool := decide (j = 0) || !decide (key d[j]! = key d[j - 1]!)
def compB (d : Array α) (m : Nat) : List α := ((List.range m).filter (keepsB key d)).map (d[·]!)
variable {key}
theorem compB_succ (d : Array α) (m : Nat) : compB key d (m + 1) = compB key d m ++ (if keepsB key d m then [d[m]!] else []) := by
  unfold compB
  rw [List.range_succ, List.filter_append, List.map_append]
  congr 1
  by_cases h : keepsB key d m <;> simp [h]
theorem compB_all (d : Array α) (m : Nat) (h : ∀ j, j < m → keepsB key d j = true) : compB key d m = (List.range m).map (d[·]!) := by
  unfold compB
  rw [List.filter_eq_self.2 (fun j hj => h j (List.mem_range.1 hj))]
theorem compB_mem {d : Array α} {m : Nat} {x : α} (h : x ∈ compB key d m) : ∃ i, i < m ∧ d[i]! = x := by
  unfold compB at h
  obtain ⟨i, hi, e⟩ := List.mem_map.1 h
  exact ⟨i, List.mem_range.1 (List.mem_filter.1 hi).1, e⟩
theorem compB_len (d : Array α) (m : Nat) : (compB key d m).length ≤ m := by
  unfold compB
  rw [List.length_map]
  exact Nat.le_trans (List.length_filter_le _ _) (by simp)
variable {R : κ → κ → Prop}
theorem compB_ok (hi : ∀ a, ¬ R a a) (ht : ∀ a b c, R a b → R b c → R a c) {d : Array α} {n : Nat} (hs : ∀ i j, i < j → j < n → R (key d[i]!) (key d[j]!) ∨ key d[i]! = key d[j]!) :
    ∀ m, m ≤ n → ((compB key d m).map key).Pairwise R ∧ ∀ i, i < m → ∃ y ∈ compB key d m, key y = key d[i]!
  | 0, _ => ⟨List.Pairwise.nil, fun i h => absurd h (Nat.not_lt_zero _)⟩
  | m + 1, hm => by
    obtain ⟨h1, h2⟩ := compB_ok hi ht hs m (by omega)
    rw [compB_succ]
    by_cases hk : keepsB key d m = true
    · rw [if_pos hk]
      refine ⟨?_, fun i hi' => ?_⟩
      · rw [List.map_append, List.pairwise_append]
        refine ⟨h1, by simp, fun a ha b hb => ?_⟩
        simp only [List.map_cons, List.map_nil, List.mem_singleton] at hb
        subst hb
        obtain ⟨y, hy, rfl⟩ := List.mem_map.1 ha
        obtain ⟨i, him, rfl⟩ := compB_mem hy
        rcases hs i m him (by omega) with h | h
        · exact h
        · exfalso
          have hm0 : m ≠ 0 := by omega
          have hne : key d[m]! ≠ key d[m - 1]! := by
            unfold keepsB at hk
            simpa [hm0] using hk
          rcases hs (m - 1) m (by omega) (by omega) with h3 | h3
          · by_cases e : i = m - 1
            · subst e; rw [h] at h3; exact hi _ h3
            · rcases hs i (m - 1) (by omega) (by omega) with h4 | h4
              · have := ht _ _ _ h4 h3; rw [h] at this; exact hi _ this
              · rw [← h4, h] at h3; exact hi _ h3
          · exact hne h3.symm
      · by_cases e : i = m
        · subst e; exact ⟨_, List.mem_append_right _ (List.mem_singleton.2 rfl), rfl⟩
        · obtain ⟨y, hy, e2⟩ := h2 i (by omega)
          exact ⟨y, List.mem_append_left _ hy, e2⟩
    · rw [if_neg hk, List.append_nil]
      refine ⟨h1, fun i hi' => ?_⟩
      by_cases e : i = m
      · subst e
        unfold keepsB at hk
        have : i ≠ 0 ∧ key d[i]! = key d[i - 1]! := by simpa using hk
        obtain ⟨y, hy, e2⟩ := h2 (i - 1) (by omega)
        exact ⟨y, hy, by rw [e2, this.2]⟩
      · exact h2 i (by omega)
end
/-- slices.Compact of sorted numbers. -/
theorem compact_up {l : List Int} (hs : l.Pairwise (· ≤ ·)) : Up (Lib.compact l) ∧ ∀ x, x ∈ Lib.compact l ↔ x ∈ l := by
  have e : Lib.compact l = compB (fun x : Int => x) l.toArray l.length := by
    unfold Lib.compact Lib.compactUpTo compB
    congr 1
    apply List.filter_congr
    intro j _
    unfold Lib.keeps keepsB
    by_cases h : j = 0 <;> simp [h]
  have hat : ∀ i, i < l.length → l.toArray[i]! = inAt l i := fun i hi => by
    rw [getElem!_pos l.toArray i (by simpa using hi), inAt_lt hi]; simp
  have hso : ∀ i j, i < j → j < l.length → (l.toArray[i]! : Int) < l.toArray[j]! ∨ (l.toArray[i]! : Int) = l.toArray[j]! := fun i j hij hj => by
    rw [hat i (by omega), hat j hj, inAt_lt (by omega), inAt_lt hj]
    have := List.pairwise_iff_getElem.1 hs i j (by omega) hj hij
    omega
  obtain ⟨h1, h2⟩ := compB_ok (key := fun x : Int => x) (R := fun a b => a < b) (d := l.toArray) (n := l.length) (fun a h => by omega) (fun a b c h h' => by omega) hso l.length (Nat.le_refl _)
  rw [List.map_id'] at h1
  refine ⟨by rw [e]; exact h1, fun x => ?_⟩
  rw [e]
  constructor
  · intro h
    obtain ⟨i, hi, rfl⟩ := compB_mem h
    rw [hat i hi, inAt_lt hi]; exact List.getElem_mem hi
  · intro h
    obtain ⟨i, hi, rfl⟩ := List.mem_iff_getElem.1 h
    obtain ⟨y, hy, e2⟩ := h2 i hi
    have e3 : y = l[i] := by rw [← inAt_lt hi, ← hat i hi]; exact e2
    rw [← e3]; exact hy

end Go.Proofs.YthifbaacmohmnaaGreat
