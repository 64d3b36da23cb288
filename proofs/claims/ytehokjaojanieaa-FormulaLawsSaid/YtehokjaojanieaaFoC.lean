/- package formula: rows of parts. -/
import Derived.Test.YtehokjaojanieaaFoB
import Derived.Test.YtehokjaojanieaaVals
import Derived.Laws.AppendOwn
import Derived.Laws.OwnMore
import Derived.Maps.AppendAt
namespace Go.Proofs.Ytehokjaojanieaa
open Go.RowKit
set_option linter.unusedVariables false
set_option linter.unusedSimpArgs false

/-- A part: where its numbers lie, its mark, its numbers. -/
structure Pt where
  v : Value
  m : Nat
  l : List Int
def encP (x : Pt) : List Value := [x.v, .int .u64 x.m]
def Pt.zero : Pt := ⟨.slice none 0 0, 0, []⟩
instance : Inhabited Pt := ⟨Pt.zero⟩
/-- A part as it should be, whose numbers lie in no block of R. -/
def PtOk (w : World) (R : Nat → Prop) (x : Pt) : Prop :=
  (∃ A c, x.v = .slice A x.l.length c ∧ x.l.length ≤ c ∧ c ≤ 9223372036854775807 ∧ (0 < x.l.length → ∃ b off, A = some ⟨b, off, none⟩ ∧ ¬ R b ∧ b < w.heap.size ∧ ∀ j, j < x.l.length → w.cell? ⟨b, off + j, none⟩ = some (.int .i64 (inAt x.l j)))) ∧
  (Up x.l ∧ ∀ n ∈ x.l, 0 ≤ n ∧ n ≤ 9223372036854775807) ∧ MarkOk x.m x.l
section
variable {w w' : World} {R R' : Nat → Prop} {x : Pt}
theorem PtOk.ints (h : PtOk w R x) : IntsAt w x.v x.l := by
  obtain ⟨⟨A, c, h1, h2, h3, h4⟩, ⟨_, h5⟩, _⟩ := h
  refine ⟨A, c, h1, h2, h3, fun n hn => by have := h5 n hn; unfold IsI; omega, fun h0 => ?_⟩
  obtain ⟨b, off, e, _, r⟩ := h4 h0
  exact ⟨b, off, e, r⟩
theorem PtOk.kept (h : PtOk w R x) (hs : w.heap.size ≤ w'.heap.size) (hk : ∀ b, ¬ R b → b < w.heap.size → w'.heap[b]? = w.heap[b]?) (hR : ∀ b, b < w.heap.size → R' b → R b) : PtOk w' R' x := by
  obtain ⟨⟨A, c, h1, h2, h3, h4⟩, h5, h6⟩ := h
  refine ⟨⟨A, c, h1, h2, h3, fun h0 => ?_⟩, h5, h6⟩
  obtain ⟨b, off, e, hb, hlt, hc⟩ := h4 h0
  refine ⟨b, off, e, fun h => hb (hR b hlt h), Nat.lt_of_lt_of_le hlt hs, fun j hj => ?_⟩
  have := hc j hj
  unfold World.cell? at this ⊢
  rw [hk b hb hlt]; exact this
theorem PtOk.grown {row : Option Nat} (h : PtOk w R x) (hg : w.grownBy w' row) (hr : ∀ k, row = some k → R k) : PtOk w' R x :=
  h.kept hg.size (fun b hb hlt => hg.block b hlt (fun e => hb (hr b e.symm))) (fun _ _ h => h)
theorem PtOk.below (h : PtOk w R x) (hb : Below w.heap.size w w') : PtOk w' R x := h.kept hb.size (fun b _ hlt => hb.block b hlt) (fun _ _ h => h)
theorem PtOk.forget (h : PtOk w R x) (hR : ∀ b, b < w.heap.size → R' b → R b) : PtOk w R' x := h.kept (Nat.le_refl _) (fun _ _ _ => rfl) hR
theorem PtOk.zero (w : World) (R : Nat → Prop) : PtOk w R Pt.zero :=
  ⟨⟨none, 0, rfl, Nat.le_refl _, by omega, fun h => absurd h (Nat.lt_irrefl _)⟩, ⟨List.Pairwise.nil, fun n hn => by cases hn⟩, mark_nil⟩
end
/-- What lies in a row of parts: at place j that which f says, if it says one. -/
def RowF (w : World) (g cap : Nat) (f : Nat → Option Pt) : Prop :=
  ∃ cs, At w g 50 cs ∧ cs.size = cap * 2 ∧ ∀ j x, f j = some x → j < cap ∧ cs[j * 2]? = some x.v ∧ cs[j * 2 + 1]? = some (.int .u64 x.m)
section
variable {w w' : World} {g cap : Nat} {f f' : Nat → Option Pt}
theorem RowF.cell (h : RowF w g cap f) {j : Nat} {x : Pt} (e : f j = some x) : w.cell? ⟨g, j * 2, none⟩ = some x.v ∧ w.cell? ⟨g, j * 2 + 1, none⟩ = some (.int .u64 x.m) := by
  obtain ⟨cs, hA, hs, hc⟩ := h
  obtain ⟨_, h0, h1⟩ := hc j x e
  exact ⟨(hA.cell _).trans h0, (hA.cell _).trans h1⟩
theorem RowF.there (h : RowF w g cap f) {j : Nat} (hj : j < cap) : ∃ u0 u1, w.cell? ⟨g, j * 2, none⟩ = some u0 ∧ w.cell? ⟨g, j * 2 + 1, none⟩ = some u1 := by
  obtain ⟨cs, hA, hs, hc⟩ := h
  exact ⟨_, _, (hA.cell _).trans (Array.getElem?_eq_getElem (by omega)), (hA.cell _).trans (Array.getElem?_eq_getElem (by omega))⟩
theorem RowF.free (h : RowF w g cap f) (i : Nat) : w.frozen? ⟨g, i, none⟩ = false := by obtain ⟨cs, hA, _⟩ := h; exact hA.free i
theorem RowF.lt (h : RowF w g cap f) : g < w.heap.size := by obtain ⟨cs, hA, _⟩ := h; exact hA.lt
theorem RowF.kept (h : RowF w g cap f) (e : w'.heap[g]? = w.heap[g]?) : RowF w' g cap f := by obtain ⟨cs, hA, hr⟩ := h; exact ⟨cs, e.trans hA, hr⟩
theorem RowF.below {B : Nat} (h : RowF w g cap f) (hb : Below B w w') (hg : g < B) : RowF w' g cap f := h.kept (hb.block g hg)
theorem RowF.next (h : RowF w g cap f) (hb : Below w.heap.size w w') : RowF w' g cap f := h.below hb h.lt
theorem RowF.weaken (h : RowF w g cap f) (e : ∀ j x, f' j = some x → f j = some x) : RowF w g cap f' := by obtain ⟨cs, hA, hs, hc⟩ := h; exact ⟨cs, hA, hs, fun j x hx => hc j x (e j x hx)⟩
theorem RowF.put (h : RowF w g cap f) {i : Nat} (hi : i < cap) (x : Pt) :
    RowF ((w.setCell ⟨g, i * 2, none⟩ x.v).setCell ⟨g, i * 2 + 1, none⟩ (.int .u64 x.m)) g cap (fun j => if j = i then some x else f j) := by
  obtain ⟨cs, hA, hs, hc⟩ := h
  refine ⟨_, (hA.set _ _).set _ _, by simp [hs], fun j y hy => ?_⟩
  dsimp only at hy
  by_cases e : j = i
  · subst e
    rw [if_pos rfl] at hy
    injection hy with hy
    subst hy
    refine ⟨hi, ?_, ?_⟩
    · rw [Array.getElem?_setIfInBounds_ne (by omega), Array.getElem?_setIfInBounds_self_of_lt (by omega)]
    · rw [Array.getElem?_setIfInBounds_self_of_lt (by simp; omega)]
  · rw [if_neg e] at hy
    obtain ⟨a, b, c⟩ := hc j y hy
    refine ⟨a, ?_, ?_⟩
    · rw [Array.getElem?_setIfInBounds_ne (by omega), Array.getElem?_setIfInBounds_ne (by omega)]; exact b
    · rw [Array.getElem?_setIfInBounds_ne (by omega), Array.getElem?_setIfInBounds_ne (by omega)]; exact c
end
theorem flatp_len (xs : List Pt) : (xs.flatMap encP).length = xs.length * 2 := by
  induction xs with
  | nil => rfl
  | cons x r ih => rw [List.flatMap_cons, List.length_append, ih]; simp [encP]; omega
theorem flatp_at : ∀ (xs : List Pt) (j : Nat) (h : j < xs.length), (xs.flatMap encP)[j * 2]? = some xs[j].v ∧ (xs.flatMap encP)[j * 2 + 1]? = some (.int .u64 xs[j].m)
  | x :: r, 0, _ => ⟨rfl, rfl⟩
  | x :: r, j + 1, h => by
    have ih := flatp_at r j (by simpa using h)
    rw [List.flatMap_cons]
    rw [show (j + 1) * 2 = 2 + j * 2 by omega, show 2 + j * 2 + 1 = 2 + (j * 2 + 1) by omega]
    rw [List.getElem?_append_right (by simp [encP]), List.getElem?_append_right (by simp [encP])]
    simp only [encP, List.length_cons, List.length_nil, Nat.zero_add, Nat.reduceAdd, Nat.add_sub_cancel_left, List.getElem_cons_succ]
    exact ih
/-- A row of parts of the call's own. -/
def Pts (w : World) (base : Nat) (v : Value) (xs : List Pt) : Prop := w.ownsRow base 50 2 v xs.length (xs.flatMap encP)
theorem RowF.own {w : World} {g cap base : Nat} {f : Nat → Option Pt} (h : RowF w g cap f) (xs : List Pt) (hf : ∀ j (h : j < xs.length), f j = some xs[j]) (hn : xs.length ≤ cap) (hc : cap ≤ maxLen) (hb : base ≤ g) : Pts w base (.slice (some ⟨g, 0, none⟩) xs.length cap) xs := by
  obtain ⟨cs, hA, hs, hr⟩ := h
  refine ⟨flatp_len xs, .inr ⟨g, cap, cs, rfl, hb, hA, hn, hc, hs, ?_⟩⟩
  apply List.ext_getElem?
  intro i
  by_cases hi : i < xs.length * 2
  · rw [List.getElem?_take_of_lt hi, Array.getElem?_toList]
    have hj : i / 2 < xs.length := by omega
    obtain ⟨_, a, b⟩ := hr _ _ (hf (i / 2) hj)
    obtain ⟨a', b'⟩ := flatp_at xs (i / 2) hj
    obtain ⟨k, hk⟩ : ∃ k, i / 2 = k := ⟨_, rfl⟩
    rcases Nat.mod_two_eq_zero_or_one i with e | e
    · obtain rfl : i = k * 2 := by omega
      simp only [hk] at a a'
      exact a.trans a'.symm
    · obtain rfl : i = k * 2 + 1 := by omega
      simp only [hk] at b b'
      exact b.trans b'.symm
  · rw [List.getElem?_eq_none (by rw [List.length_take]; omega), List.getElem?_eq_none (by rw [flatp_len]; omega)]
theorem Pts.row {w : World} {base : Nat} {v : Value} {xs : List Pt} (h : Pts w base v xs) :
    (v = .slice none 0 0 ∧ xs = []) ∨ ∃ g cap, v = .slice (some ⟨g, 0, none⟩) xs.length cap ∧ xs.length ≤ cap ∧ cap ≤ maxLen ∧ base ≤ g ∧ RowF w g cap (fun j => xs[j]?) := by
  obtain ⟨hl, ⟨rfl, h0⟩ | ⟨g, cap, cs, rfl, hb, hA, hn, hc, hs, ht⟩⟩ := h
  · exact .inl ⟨rfl, List.eq_nil_of_length_eq_zero h0⟩
  · refine .inr ⟨g, cap, rfl, hn, hc, hb, cs, hA, hs, fun j x hx => ?_⟩
    obtain ⟨hj, rfl⟩ := List.getElem?_eq_some_iff.1 hx
    obtain ⟨a, b⟩ := flatp_at xs j hj
    refine ⟨by omega, ?_, ?_⟩
    · rw [← a, ← ht, List.getElem?_take_of_lt (by omega), Array.getElem?_toList]
    · rw [← b, ← ht, List.getElem?_take_of_lt (by omega), Array.getElem?_toList]
theorem Pts.nil (w : World) (base : Nat) : Pts w base (.slice none 0 0) [] := World.ownsRow_nil w base _ 2
theorem Pts.low {w : World} {base base' : Nat} {v : Value} {xs : List Pt} (h : Pts w base v xs) (hb : base' ≤ base) : Pts w base' v xs := by
  obtain ⟨hl, h | ⟨g, cap, cs, e, hb', r⟩⟩ := h
  · exact ⟨hl, .inl h⟩
  · exact ⟨hl, .inr ⟨g, cap, cs, e, Nat.le_trans hb hb', r⟩⟩
theorem Pts.next {w w' : World} {base : Nat} {v : Value} {xs : List Pt} (h : Pts w base v xs) (hb : Below w.heap.size w w') : Pts w' base v xs := by
  obtain ⟨hl, h | ⟨g, cap, cs, e, hb', hA, r⟩⟩ := h
  · exact ⟨hl, .inl h⟩
  · exact ⟨hl, .inr ⟨g, cap, cs, e, hb', (hb.block g (At.lt (t := 50) (cs := cs) hA)).trans hA, r⟩⟩
/-- A row of parts, as it is read. -/
def PsAt (w : World) (v : Value) (xs : List Pt) : Prop :=
  (∃ A c, v = .slice A xs.length c ∧ xs.length ≤ c ∧ c ≤ 9223372036854775807 ∧ (0 < xs.length → ∃ g cap, A = some ⟨g, 0, none⟩ ∧ xs.length ≤ cap ∧ RowF w g cap (fun j => xs[j]?))) ∧ ∀ x ∈ xs, PtOk w (fun _ => False) x
section
variable {w w' : World} {v : Value} {xs : List Pt}
theorem PsAt.len {A : Option Addr} {n c : Nat} (h : PsAt w (.slice A n c) xs) : n = xs.length := by obtain ⟨⟨A', c', h1, _⟩, _⟩ := h; injection h1
theorem PsAt.max {A : Option Addr} {n c : Nat} (h : PsAt w (.slice A n c) xs) : xs.length ≤ 9223372036854775807 ∧ xs.length ≤ c ∧ c ≤ 9223372036854775807 := by obtain ⟨⟨A', c', h1, h2, h3, _⟩, _⟩ := h; injection h1 with _ _ e; subst e; omega
theorem PsAt.next (h : PsAt w v xs) (hb : Below w.heap.size w w') : PsAt w' v xs := by
  obtain ⟨⟨A, c, h1, h2, h3, h4⟩, h5⟩ := h
  refine ⟨⟨A, c, h1, h2, h3, fun h0 => ?_⟩, fun x hx => (h5 x hx).below hb⟩
  obtain ⟨g, cap, e, hc, hr⟩ := h4 h0
  exact ⟨g, cap, e, hc, hr.next hb⟩
theorem PsAt.at {A : Option Addr} {n c : Nat} (h : PsAt w (.slice A n c) xs) (j : Nat) (hj : j < xs.length) :
    ∃ g x, A = some ⟨g, 0, none⟩ ∧ g < w.heap.size ∧ xs[j]? = some x ∧ w.cell? ⟨g, j * 2, none⟩ = some x.v ∧ w.cell? ⟨g, j * 2 + 1, none⟩ = some (.int .u64 x.m) ∧ PtOk w (fun _ => False) x := by
  obtain ⟨⟨A', c', h1, h2, h3, h4⟩, h5⟩ := h
  injection h1 with e1 _ _
  subst e1
  obtain ⟨g, cap, e, hc, hr⟩ := h4 (by omega)
  have hx : xs[j]? = some xs[j] := List.getElem?_eq_getElem hj
  obtain ⟨a, b⟩ := hr.cell (j := j) hx
  exact ⟨g, xs[j], e, hr.lt, hx, a, b, h5 _ (List.getElem_mem hj)⟩
theorem Pts.read {base : Nat} (h : Pts w base v xs) (hp : ∀ x ∈ xs, PtOk w (fun _ => False) x) : PsAt w v xs := by
  refine ⟨?_, hp⟩
  rcases h.row with ⟨rfl, rfl⟩ | ⟨g, cap, rfl, hn, hc, _, hr⟩
  · exact ⟨none, 0, rfl, Nat.le_refl _, by omega, fun h => absurd h (Nat.lt_irrefl _)⟩
  · exact ⟨_, cap, rfl, hn, by unfold maxLen at hc; omega, fun _ => ⟨g, cap, rfl, hn, hr⟩⟩
end
def partZero : Array Value := #[.slice none 0 0, .int .u64 0]
theorem info_part : (Try.prog.info? 50).map (fun i => (i.zero, i.size, i.bytes)) = some (some (.agg partZero), 2, 32) := by kernel_rfl
theorem make_parts (n : Nat) (hn : n ≤ 4000000) (w : World) : (Instr.makeSlice 44 (.int .i64 (n : Int)) (.int .i64 (n : Int))).run Try.prog w = .ok (.slice (some ⟨w.heap.size, 0, none⟩) n n) (w.alloc (.cells (madeCells partZero (n * 2)) 50)) := by
  obtain ⟨i, hi, h0, h1, h2⟩ := info_parts info_part
  have h := run_make (P := Try.prog) w 44 50 i _ Try.underlying44 hi h0 .i64 .i64 (n : Int) (n : Int) (by omega) (Int.le_refl _) (by rw [h2]; omega) (by omega)
  rw [h1] at h
  simpa [Value.cells] using h
theorem made_parts (w : World) (n : Nat) : RowF (w.alloc (.cells (madeCells partZero (n * 2)) 50)) w.heap.size n (fun _ => none) :=
  ⟨_, At.new _ _ _, by simp [madeCells], fun j x hx => by cases hx⟩
theorem pa_push {ps : List Pt} {i : Nat} (h : ps.length = i) (x : Pt) : ∀ j y, (ps ++ [x])[j]? = some y → (if j = i then some x else ps[j]?) = some y := by
  intro j y hy
  subst h
  by_cases e : j = ps.length
  · subst e; rw [if_pos rfl]; simpa using hy
  · rw [if_neg e]
    have hj : j < ps.length := by
      have := (List.getElem?_eq_some_iff.1 hy).1
      simp at this; omega
    rwa [List.getElem?_append_left hj] at hy
theorem IntsAt.pt {w : World} {A : Option Addr} {c : Nat} {l : List Int} (h : IntsAt w (.slice A l.length c) l) (hu : Up l) (h0 : ∀ x ∈ l, 0 ≤ x) {m : Nat} (hm : MarkOk m l) {R : Nat → Prop} (hR : ∀ b, b < w.heap.size → ¬ R b) : PtOk w R ⟨.slice A l.length c, m, l⟩ := by
  obtain ⟨A', c', e, h2, h3, h4, h5⟩ := h
  injection e with e1 _ e3
  subst e1 e3
  refine ⟨⟨A, c, rfl, h2, h3, fun h0 => ?_⟩, ⟨hu, fun n hn => ⟨h0 n hn, (h4 n hn).2⟩⟩, hm⟩
  obtain ⟨b, off, e, hb, r⟩ := h5 h0
  exact ⟨b, off, e, hR b hb, hb, r⟩

theorem grown2 (w : World) (g o o' : Nat) (v v' : Value) : w.grownBy ((w.setCell ⟨g, o, none⟩ v).setCell ⟨g, o', none⟩ v') (some g) :=
  ⟨rfl, rfl, rfl, by simp [World.setCell], fun k hk hne => by
    have h : k ≠ g := fun e => hne (by rw [e])
    exact (Below.heap_setCell _ ⟨g, o', none⟩ v' k h).trans (Below.heap_setCell _ ⟨g, o, none⟩ v k h)⟩

set_option maxRecDepth 100000 in
set_option maxHeartbeats 4000000 in
theorem fPartsOf (f : Fm) (A : Option Addr) (n c : Nat) (w : World) (h : FmAt w (.slice A n c) f) (hn : f.length ≤ 4000000) (hu : ∀ p ∈ f, Up p ∧ ∀ x ∈ p, 0 ≤ x) :
    Calls Try.prog 25 #[.slice A n c] w fun e w' => ∃ v ps, e = .returned v ∧ Pts w' w.heap.size v ps ∧ (∀ x ∈ ps, PtOk w' (fun b => w.heap.size ≤ b) x) ∧ ps.map (·.l) = f ∧ Below w.heap.size w w' := by
  have HI := Lib.hid h
  have hm := h.max
  obtain rfl := h.len
  have HU := Lib.hid hu
  have hmk := make_parts f.length hn
  have hR0 := made_parts w f.length
  have hB0 : Below w.heap.size w (w.alloc (.cells (madeCells partZero (f.length * 2)) 50)) := (Below.refl _ _).alloc (Nat.le_refl _) _
  clear h hu
  go_enter Try.func25, Try.ntmps25
  go_wp2_with fail
  clear hmk
  generalize w.alloc (.cells (madeCells partZero (f.length * 2)) 50) = W at hB0 hR0 ⊢
  go_loopw [11] (fun v wr => ∃ (i : Nat), i ≤ f.length ∧ v = .int .i64 i ∧ Hid (Below w.heap.size w wr) ∧ Hid (∃ ps : List Pt, RowF wr w.heap.size f.length (fun j => ps[j]?) ∧ (∀ x ∈ ps, PtOk wr (fun b => w.heap.size ≤ b) x) ∧ ps.map (·.l) = f.take i)) (fun v _ => f.length - (intOf v).toNat)
  case atStart => exact ⟨0, Nat.zero_le _, rfl, Lib.hid hB0, Lib.hid ⟨[], hR0.weaken (fun j x hx => by simp at hx), (fun x hx => by cases hx), rfl⟩⟩
  case round =>
    obtain ⟨i, hi, rfl, HB, HP⟩ := hrel
    by_cases hlt : i < f.length
    · have h1 : (0 : Int) ≤ (i : Int) := by omega
      have h2 : (i : Int) < (f.length : Int) := by omega
      obtain ⟨b, off, A2, c2, rfl, hbl, q0, hp⟩ := HI.out.at i hlt
      have q1 := ((bcell HB.out).1 b (off + i) hbl).trans q0
      have HJ := Lib.hid (hp.next HB.out)
      have HO := Lib.hid hp
      clear q0 hp
      have hmem : paAt f i ∈ f := by rw [paAt_lt hlt]; exact List.getElem_mem hlt
      have htk := Lib.hid (take_step f i hlt)
      go_wp2_with fail
      refine (fPartOf (paAt f i) A2 _ c2 _ HJ.out (HU.out _ hmem).2).mono ?_
      rintro e w3 ⟨m, rfl, hmk, hb3⟩
      have HM := Lib.hid hmk
      have HB3 := Lib.hid hb3
      have HB4 := Lib.hid (HB.out.trans (hb3.mono HB.out.size))
      have hlt3 : Hid (wr.heap.size ≤ w3.heap.size) := Lib.hid hb3.size
      obtain ⟨ps, a1, a2, a3⟩ := HP.out
      have hl : ps.length = i := by rw [← List.length_map (f := (·.l)), a3, List.length_take]; omega
      have a1' := Lib.hid (a1.next hb3)
      obtain ⟨u0, u1, c0, c1⟩ := a1'.out.there hlt
      have f0 := a1'.out.free (i * 2)
      have f1 := a1'.out.free (i * 2 + 1)
      have A2' := Lib.hid a2
      have A3 := Lib.hid a3
      have HL := Lib.hid hl
      clear hmk hb3 a1 a2 a3 hl
      go_wp2_with fail
      obtain ⟨hu, h0⟩ := HU.out _ hmem
      have hx : PtOk w (fun b => w.heap.size ≤ b) ⟨.slice A2 (paAt f i).length c2, m, paAt f i⟩ := HO.out.pt hu h0 HM.out (fun b hb h => by omega)
      have hg := grown2 w3 w.heap.size (i * 2) (i * 2 + 1) (.slice A2 (paAt f i).length c2) (.int .u64 m)
      have hl := HL.out
      refine ⟨⟨i + 1, by omega, by go_num, Lib.hid ?_, Lib.hid ⟨ps ++ [⟨.slice A2 (paAt f i).length c2, m, paAt f i⟩], ?_, ?_, ?_⟩⟩, by simp [intOf]; omega⟩
      · exact (HB4.out.setCell (p := ⟨w.heap.size, i * 2, none⟩) (Nat.le_refl _) _).setCell (p := ⟨w.heap.size, i * 2 + 1, none⟩) (Nat.le_refl _) _
      · exact (a1'.out.put hlt ⟨.slice A2 (paAt f i).length c2, m, paAt f i⟩).weaken (pa_push hl _)
      · intro x hx'
        rcases List.mem_append.1 hx' with h | h
        · exact ((A2'.out x h).below HB3.out).grown hg (fun k e => by injection e with e; subst e; exact Nat.le_refl _)
        · rw [List.mem_singleton.1 h]
          exact (hx.below HB4.out).grown hg (fun k e => by injection e with e; subst e; exact Nat.le_refl _)
      · rw [List.map_append, A3.out, htk.out, ← paAt_lt hlt]; rfl
    · obtain rfl : i = f.length := by omega
      go_wp2_with fail
      go_ret
      obtain ⟨ps, a1, a2, a3⟩ := HP.out
      rw [List.take_length] at a3
      have hl : ps.length = f.length := by rw [← a3, List.length_map]
      refine ⟨_, ps, rfl, ?_, a2, a3, HB.out⟩
      have := a1.own ps (fun j h => List.getElem?_eq_getElem h) (by omega) (by unfold maxLen; omega) (Nat.le_refl _)
      rwa [hl] at this

end Go.Proofs.Ytehokjaojanieaa
