/- looks.Plan: the looks as they lie; Index, Late, isLook. -/
import Derived.Test.YtjkcbojlopdonaaTreeSameW
import Derived.Test.YtjkcbojlopdonaaRefLooks
namespace Go.Proofs.Ytjkcbojlopdonaa
open Go.RowKit
set_option linter.unusedSimpArgs false
set_option linter.unusedVariables false

/- What stays where some blocks turn. -/
theorem Tr.In.frame {w w' : World} {X : Nat → Prop} (hs : w.heap.size ≤ w'.heap.size) (hk : ∀ b, b < w.heap.size → ¬ X b → w'.heap[b]? = w.heap[b]?) : ∀ (k : Nat) (t : Tr), (∀ b, X b → Tr.Off b k t) → Tr.In w k t → Tr.In w' k t
  | 0, _, _, h => h
  | k + 1, t, hf, h => ⟨h.1, h.2.1, fun h0 => by
      obtain ⟨b, off, e, hlt, hr⟩ := h.2.2.1 h0
      have hx : ¬ X b := fun q => (hf b q).1 h0 b off e rfl
      refine ⟨b, off, e, Nat.lt_of_lt_of_le hlt hs, fun j hj i v hv => ?_⟩
      have := hr j hj i v hv
      unfold World.cell? at this ⊢
      rw [hk b hlt hx]; exact this, fun j hj => Tr.In.frame hs hk k _ (fun b q => (hf b q).2 _ (List.getElem_mem hj)) (h.2.2.2 j hj)⟩
theorem Tr.Sol.frame {w w' : World} {X : Nat → Prop} (hk : ∀ b, b < w.heap.size → ¬ X b → w'.heap[b]? = w.heap[b]?) : ∀ (k : Nat) (t : Tr), (∀ b, X b → Tr.Off b k t) → Tr.In w k t → Tr.Sol w k t → Tr.Sol w' k t
  | 0, _, _, _, _ => trivial
  | k + 1, t, hf, h, hs => ⟨fun h0 b off e => by
      obtain ⟨b', off', e', hlt, _⟩ := h.2.2.1 h0
      rw [e] at e'
      injection e' with e'
      injection e' with e1 e2
      subst e1; subst e2
      rw [World.frozen?_of_block (w := w) (hk b hlt (fun q => (hf b q).1 h0 b off e rfl))]
      exact hs.1 h0 b off e, fun p hp => by
      obtain ⟨j, hj, rfl⟩ := List.getElem_of_mem hp
      exact Tr.Sol.frame hk k _ (fun b q => (hf b q).2 _ hp) (h.2.2.2 j hj) (hs.2 _ hp)⟩
theorem Tr.Ins.frame {w w' : World} {X : Nat → Prop} (hs : w.heap.size ≤ w'.heap.size) (hk : ∀ b, b < w.heap.size → ¬ X b → w'.heap[b]? = w.heap[b]?) {k : Nat} {t : Tr} (hf : ∀ b, X b → Tr.Off b k t) (h : Tr.Ins w k t) : Tr.Ins w' k t := ⟨Tr.In.frame hs hk k t hf h.1, Tr.Sol.frame hk k t hf h.1 h.2⟩
theorem OwnW.frame {w w' : World} {X : Nat → Prop} (hk : ∀ b, b < w.heap.size → ¬ X b → w'.heap[b]? = w.heap[b]?) : ∀ {k lo hi : Nat} {t : Tr}, (∀ b, X b → Tr.Off b k t) → OwnW w k lo hi t → OwnW w' k lo hi t
  | 0, _, _, _, _, h => h
  | k + 1, lo, hi, t, hf, ⟨m, h1, h2, h3⟩ => ⟨m, h1, fun h0 => by
      obtain ⟨g, cs, e, a, b, c⟩ := h2 h0
      exact ⟨g, cs, e, a, b, (hk g (At.lt c) (fun q => (hf g q).1 h0 g 0 e rfl)).trans c⟩, h3.mono (fun a b p _ hp q => OwnW.frame hk (fun b q => (hf b q).2 p hp) q) (fun _ _ _ q => q.le)⟩
theorem OwnL.mem {G : Nat → Nat → Tr → Prop} (hl : ∀ a b p, G a b p → a ≤ b) {hi : Nat} : ∀ {ps : List Tr} {m : Nat} {p : Tr}, OwnL G hi m ps → p ∈ ps → ∃ a b, m ≤ a ∧ b ≤ hi ∧ G a b p
  | q :: ps, m, p, ⟨c, h1, h2⟩, hp => by
    rcases List.mem_cons.1 hp with rfl | hp
    · exact ⟨m, c, Nat.le_refl _, OwnL.le hl h2, h1⟩
    · obtain ⟨a, b, h3, h4, h5⟩ := OwnL.mem hl h2 hp
      exact ⟨a, b, Nat.le_trans (hl _ _ _ h1) h3, h4, h5⟩
theorem OwnW.off {w : World} {b : Nat} : ∀ {k lo hi : Nat} {t : Tr}, OwnW w k lo hi t → b < lo ∨ hi ≤ b → Tr.Off b k t
  | 0, _, _, _, _, _ => trivial
  | k + 1, lo, hi, t, ⟨m, h1, h2, h3⟩, hb => ⟨fun h0 b' off e q => by
      obtain ⟨g, cs, e', a, c, _⟩ := h2 h0
      rw [e] at e'
      injection e' with e'
      injection e' with e1
      have := OwnL.le (fun _ _ _ q => OwnW.le q) h3
      omega, fun p hp => by
      obtain ⟨a, c, h4, h5, h6⟩ := OwnL.mem (fun _ _ _ q => OwnW.le q) h3 hp
      exact h6.off (by omega)⟩
theorem bare_ins {w : World} : ∀ {k : Nat} {t : Tr}, Tr.Ins w k t → Tr.Ins w k (bareT t)
  | 0, _, h => h
  | k + 1, t, h => by cases t; exact h
theorem bare_own {w : World} : ∀ {k lo hi : Nat} {t : Tr}, OwnW w k lo hi t → OwnW w k lo hi (bareT t)
  | 0, _, _, _, h => h
  | k + 1, _, _, t, h => by cases t; exact h
theorem bare_off {b : Nat} : ∀ {k : Nat} {t : Tr}, Tr.Off b k t → Tr.Off b k (bareT t)
  | 0, _, h => h
  | k + 1, t, h => by cases t; exact h
theorem bare_mass (k : Nat) (t : Tr) : massS k (bareT t) = massS k t := by cases k <;> cases t <;> rfl
theorem bare_slim : ∀ {k : Nat} {t : Tr}, slimS k t → slimS k (bareT t)
  | 0, _, h => h
  | k + 1, t, h => by cases t; exact h
/-- A look of a plan. -/
structure LkOk (w : World) (t : Tr) : Prop where
  ins : Tr.Ins w 40 t
  own : ∃ lo hi, OwnW w 40 lo hi t
  mass : massS 40 t ≤ 4000000
  slim : slimS 40 t
theorem LkOk.frame {w w' : World} {X : Nat → Prop} {t : Tr} (h : LkOk w t) (hs : w.heap.size ≤ w'.heap.size) (hk : ∀ b, b < w.heap.size → ¬ X b → w'.heap[b]? = w.heap[b]?) (hf : ∀ b, X b → Tr.Off b 40 t) : LkOk w' t :=
  ⟨h.ins.frame hs hk hf, by obtain ⟨lo, hi, q⟩ := h.own; exact ⟨lo, hi, q.frame hk hf⟩, h.mass, h.slim⟩
theorem LkOk.next {w w' : World} {t : Tr} (h : LkOk w t) (hb : Below w.heap.size w w') : LkOk w' t := h.frame (X := fun _ => False) hb.size (fun b hlt _ => hb.block b hlt) (fun _ q => q.elim)
/-- The looks, as they are read. -/
def LksAt (w : World) (v : Value) (L : List Tr) : Prop := Pats w 40 v L ∧ ∀ t ∈ L, LkOk w t
theorem LksAt.next {w w' : World} {v : Value} {L : List Tr} (h : LksAt w v L) (hb : Below w.heap.size w w') : LksAt w' v L := ⟨h.1.next hb, fun t ht => (h.2 t ht).next hb⟩
/-- The first one of which something is true. -/
def idxFrom (f : Tr → Bool) : List Tr → Nat → Int
  | [], _ => -1
  | q :: L, i => if f q = true then i else idxFrom f L (i + 1)
def idxS (L : List Tr) (t : Tr) : Int := idxFrom (fun q => sameS 40 40 q (bareT t)) L 0
theorem idx_step {f : Tr → Bool} {L : List Tr} {j : Nat} (hj : j < L.length) (hf : f L[j] = false) : idxFrom f (L.drop j) j = idxFrom f (L.drop (j + 1)) (j + 1) := by
  rw [List.drop_eq_getElem_cons hj, idxFrom, if_neg (by rw [hf]; decide)]
theorem idx_found {f : Tr → Bool} {L : List Tr} {j : Nat} (hj : j < L.length) (hf : f L[j] = true) : idxFrom f (L.drop j) j = j := by
  rw [List.drop_eq_getElem_cons hj, idxFrom, if_pos hf]

set_option maxRecDepth 100000 in
set_option maxHeartbeats 4000000 in
theorem tIndexFn1 (b : Nat) (q t : Tr) (w : World) (hq : LkOk w q) (ht : Tr.Ins w 40 t) (hb : At w b 35 t.cs.toArray) :
    Calls Try.prog 23 #[.agg q.cs.toArray, .pointer (some ⟨b, 0, none⟩)] w fun e w' => e = .returned (.bool (sameS 40 40 q t)) ∧ Below w.heap.size w w' := by
  obtain ⟨lo, hi, how⟩ := hq.own
  have hB : Below w.heap.size w (w.alloc (.cells q.cs.toArray 35)) := (Below.refl _ _).alloc (Nat.le_refl _) _
  have HS := Lib.hid (tSame lo hi q t (w.alloc (.cells q.cs.toArray 35)) (hq.ins.next hB) (ht.next hB) (how.next hB) hq.mass)
  have hA : At (w.alloc (.cells q.cs.toArray 35)) w.heap.size 35 q.cs.toArray := At.new _ _ _
  have HT := Lib.hid (At.below hb hB hb.lt)
  have HB := Lib.hid hB
  clear hB how hq ht hb
  go_enter Try.func23, Try.ntmps23
  go_wp2_with (first
    | (with_reducible show wpList _ _ _ ({ dst := some 4, op := .load 35 _, type := _, pos := _, after := _, guard := _ } :: _) _ _
       refine wpList_load_row rfl 35 _ rfl w.heap.size rfl 35 q.cs.toArray (0, 0) _ hA Try.underlying35 rfl (by kernel_rfl) ?_)
    | (with_reducible show wpList _ _ _ ({ dst := some 5, op := .load 35 _, type := _, pos := _, after := _, guard := _ } :: _) _ _
       refine wpList_load_row rfl 35 _ rfl b rfl 35 t.cs.toArray (0, 0) _ HT.out Try.underlying35 rfl (by kernel_rfl) ?_)
    | fail)
  refine HS.out.mono ?_
  rintro e w2 ⟨rfl, hb2⟩
  have HB2 := Lib.hid (HB.out.trans (hb2.mono HB.out.size))
  clear hb2 hA
  go_wp2_with fail
  go_ret
  exact ⟨rfl, HB2.out⟩

set_option maxRecDepth 100000 in
set_option maxHeartbeats 4000000 in
theorem tLateFn1 (q : Tr) (w : World) :
    Calls Try.prog 21 #[.agg q.cs.toArray] w fun e w' => e = .returned (.bool (decide (q.kind = 8) || decide (q.kind = 11))) ∧ Below w.heap.size w w' := by
  have hA : At (w.alloc (.cells q.cs.toArray 35)) w.heap.size 35 q.cs.toArray := At.new _ _ _
  have c0 := (At.tr_cell hA).1
  have HB : Hid (Below w.heap.size w (w.alloc (.cells q.cs.toArray 35))) := Lib.hid ((Below.refl _ _).alloc (Nat.le_refl _) _)
  clear hA
  go_enter Try.func21, Try.ntmps21
  by_cases h8 : q.kind = 8
  · have d8 := (int_eq h8).1
    have HF : Hid ((decide (q.kind = 8) || decide (q.kind = 11)) = true) := Lib.hid (by rw [decide_eq_true h8, Bool.true_or])
    clear h8
    go_wp2_with fail
    go_ret
    exact ⟨ret_bool HF.out.symm, HB.out⟩
  · have d8 := (int_ne h8).1
    by_cases h11 : q.kind = 11
    · have d11 := (int_eq h11).1
      have HF : Hid ((decide (q.kind = 8) || decide (q.kind = 11)) = true) := Lib.hid (by rw [decide_eq_true h11, Bool.or_true])
      clear h8 h11
      go_wp2_with fail
      go_ret
      exact ⟨ret_bool HF.out.symm, HB.out⟩
    · have d11 := (int_ne h11).1
      have HF : Hid ((decide (q.kind = 8) || decide (q.kind = 11)) = false) := Lib.hid (by rw [decide_eq_false h8, decide_eq_false h11]; rfl)
      clear h8 h11
      go_wp2_with fail
      go_ret
      exact ⟨ret_bool HF.out.symm, HB.out⟩

set_option maxRecDepth 100000 in
set_option maxHeartbeats 4000000 in
theorem tIsLook (q : Tr) (w : World) :
    Calls Try.prog 28 #[.agg q.cs.toArray] w fun e w' => e = .returned (.bool (decide (8 ≤ q.kind ∧ q.kind ≤ 11))) ∧ Below w.heap.size w w' := by
  have hA : At (w.alloc (.cells q.cs.toArray 35)) w.heap.size 35 q.cs.toArray := At.new _ _ _
  have c0 := (At.tr_cell hA).1
  have HB : Hid (Below w.heap.size w (w.alloc (.cells q.cs.toArray 35))) := Lib.hid ((Below.refl _ _).alloc (Nat.le_refl _) _)
  clear hA
  go_enter Try.func28, Try.ntmps28
  by_cases h8 : q.kind = 8
  · have d8 := (int_eq h8).1
    have HF : Hid (decide (8 ≤ q.kind ∧ q.kind ≤ 11) = true) := Lib.hid (decide_eq_true (by omega))
    clear h8
    go_wp2_with fail
    go_ret
    exact ⟨ret_bool HF.out.symm, HB.out⟩
  · have d8 := (int_ne h8).1
    by_cases h9 : q.kind = 9
    · have d9 := (int_eq h9).1
      have HF : Hid (decide (8 ≤ q.kind ∧ q.kind ≤ 11) = true) := Lib.hid (decide_eq_true (by omega))
      clear h8 h9
      go_wp2_with fail
      go_ret
      exact ⟨ret_bool HF.out.symm, HB.out⟩
    · have d9 := (int_ne h9).1
      by_cases h10 : q.kind = 10
      · have d10 := (int_eq h10).1
        have HF : Hid (decide (8 ≤ q.kind ∧ q.kind ≤ 11) = true) := Lib.hid (decide_eq_true (by omega))
        clear h8 h9 h10
        go_wp2_with fail
        go_ret
        exact ⟨ret_bool HF.out.symm, HB.out⟩
      · have d10 := (int_ne h10).1
        by_cases h11 : q.kind = 11
        · have d11 := (int_eq h11).1
          have HF : Hid (decide (8 ≤ q.kind ∧ q.kind ≤ 11) = true) := Lib.hid (decide_eq_true (by omega))
          clear h8 h9 h10 h11
          go_wp2_with fail
          go_ret
          exact ⟨ret_bool HF.out.symm, HB.out⟩
        · have d11 := (int_ne h11).1
          have HF : Hid (decide (8 ≤ q.kind ∧ q.kind ≤ 11) = false) := Lib.hid (decide_eq_false (by omega))
          clear h8 h9 h10 h11
          go_wp2_with fail
          go_ret
          exact ⟨ret_bool HF.out.symm, HB.out⟩

set_option maxRecDepth 100000 in
set_option maxHeartbeats 4000000 in
theorem tIdxIndex (v : Value) (L : List Tr) (w : World) (hL : LksAt w v L) (hl : L.length ≤ 1000000) (t : Tr) (b : Nat) (ht : Tr.Ins w 40 t) (hb : At w b 35 t.cs.toArray) :
    Calls Try.prog 22 #[v, .func (.func 23) #[] #[.pointer (some ⟨b, 0, none⟩)]] w fun e w' => e = .returned (.int .i64 (idxFrom (fun q => sameS 40 40 q t) L 0)) ∧ Below w.heap.size w w' := by
  obtain ⟨A, c, rfl, hrow, _⟩ := id hL.1
  have HL := Lib.hid hL
  have HR := Lib.hid hrow
  have HT := Lib.hid ht
  have HA := Lib.hid hb
  clear ht hb
  clear hL hrow
  go_enter Try.func22, Try.ntmps22
  go_wp2_with fail
  go_loopw [8] (fun i wr => ∃ j : Nat, j ≤ L.length ∧ i = .int .i64 j ∧ Hid (idxFrom (fun q => sameS 40 40 q t) L 0 = idxFrom (fun q => sameS 40 40 q t) (L.drop j) j) ∧ Hid (Below w.heap.size w wr)) (fun i _ => L.length - (intOf i).toNat)
  case atStart => exact ⟨0, Nat.zero_le _, rfl, Lib.hid (by rw [List.drop_zero]), Lib.hid (Below.refl _ _)⟩
  case round =>
    obtain ⟨j, hj, rfl, HI, HB⟩ := hrel
    by_cases hlt : j < L.length
    · obtain ⟨b1, o1, rfl, hb1, hr1⟩ := HR.out (by omega)
      have HX := Lib.hid (range_below (hr1 j hlt) hb1 (Nat.le_refl _) HB.out)
      have hq := (HL.out.2 _ (List.getElem_mem hlt)).next HB.out
      have HSt := Lib.hid (idx_step (f := fun q => sameS 40 40 q t) hlt)
      have HFo := Lib.hid (idx_found (f := fun q => sameS 40 40 q t) hlt)
      have hjz : (0 : Int) ≤ (j : Int) := by omega
      have hjn : (j : Int) < (L.length : Int) := by omega
      obtain ⟨q, hqq⟩ : ∃ q, q = L[j] := ⟨_, rfl⟩
      rw [← hqq] at HX hq HSt HFo
      have HC := Lib.hid (tIndexFn1 b q t wr hq (HT.out.next HB.out) (At.below HA.out HB.out HA.out.lt))
      clear hb1 hr1 hq hqq
      go_wp2_with (first
        | (with_reducible show wpList _ _ _ ({ dst := some 15, op := .load 35 _, type := _, pos := _, after := _, guard := _ } :: _) _ _
           refine wpList_load_mid rfl 35 _ rfl b1 (o1 + j * 9) rfl q.cs _ HX.out Try.underlying35 rfl (by rw [Tr.cs_length]; kernel_rfl) ?_)
        | fail)
      refine HC.out.mono ?_
      rintro e w2 ⟨rfl, hb2⟩
      have HB2 := Lib.hid (HB.out.trans (hb2.mono HB.out.size))
      clear hb2
      obtain ⟨r, hrr⟩ : ∃ r, r = (sameS 40 40 q t) := ⟨_, rfl⟩
      have HRr := Lib.hid hrr
      rw [← hrr]
      clear hrr
      cases r with
      | true =>
        have HF : Hid (idxFrom (fun q => sameS 40 40 q t) L 0 = j) := Lib.hid (by rw [HI.out]; exact HFo.out HRr.out.symm)
        go_wp2_with fail
        go_ret
        exact ⟨by rw [HF.out]; rfl, HB2.out⟩
      | false =>
        have HF : Hid (idxFrom (fun q => sameS 40 40 q t) L 0 = idxFrom (fun q => sameS 40 40 q t) (L.drop (j + 1)) (j + 1)) := Lib.hid (by rw [HI.out]; exact HSt.out HRr.out.symm)
        go_wp2_with fail
        exact ⟨⟨j + 1, by omega, by go_num, HF, HB2⟩, by simp [intOf]; omega⟩
    · obtain rfl : j = L.length := by omega
      have HF : Hid (idxFrom (fun q => sameS 40 40 q t) L 0 = -1) := Lib.hid (by rw [HI.out, List.drop_length]; rfl)
      go_wp2_with fail
      go_ret
      exact ⟨by rw [HF.out]; rfl, HB.out⟩

set_option maxRecDepth 100000 in
set_option maxHeartbeats 4000000 in
theorem tIdxLate (v : Value) (L : List Tr) (w : World) (hL : LksAt w v L) (hl : L.length ≤ 1000000) :
    Calls Try.prog 22 #[v, .func (.func 21) #[] #[]] w fun e w' => e = .returned (.int .i64 (idxFrom (fun q => decide (q.kind = 8) || decide (q.kind = 11)) L 0)) ∧ Below w.heap.size w w' := by
  obtain ⟨A, c, rfl, hrow, _⟩ := id hL.1
  have HL := Lib.hid hL
  have HR := Lib.hid hrow
  clear hL hrow
  go_enter Try.func22, Try.ntmps22
  go_wp2_with fail
  go_loopw [8] (fun i wr => ∃ j : Nat, j ≤ L.length ∧ i = .int .i64 j ∧ Hid (idxFrom (fun q => decide (q.kind = 8) || decide (q.kind = 11)) L 0 = idxFrom (fun q => decide (q.kind = 8) || decide (q.kind = 11)) (L.drop j) j) ∧ Hid (Below w.heap.size w wr)) (fun i _ => L.length - (intOf i).toNat)
  case atStart => exact ⟨0, Nat.zero_le _, rfl, Lib.hid (by rw [List.drop_zero]), Lib.hid (Below.refl _ _)⟩
  case round =>
    obtain ⟨j, hj, rfl, HI, HB⟩ := hrel
    by_cases hlt : j < L.length
    · obtain ⟨b1, o1, rfl, hb1, hr1⟩ := HR.out (by omega)
      have HX := Lib.hid (range_below (hr1 j hlt) hb1 (Nat.le_refl _) HB.out)
      have hq := (HL.out.2 _ (List.getElem_mem hlt)).next HB.out
      have HSt := Lib.hid (idx_step (f := fun q => decide (q.kind = 8) || decide (q.kind = 11)) hlt)
      have HFo := Lib.hid (idx_found (f := fun q => decide (q.kind = 8) || decide (q.kind = 11)) hlt)
      have hjz : (0 : Int) ≤ (j : Int) := by omega
      have hjn : (j : Int) < (L.length : Int) := by omega
      obtain ⟨q, hqq⟩ : ∃ q, q = L[j] := ⟨_, rfl⟩
      rw [← hqq] at HX hq HSt HFo
      have HC := Lib.hid (tLateFn1 q wr)
      clear hb1 hr1 hq hqq
      go_wp2_with (first
        | (with_reducible show wpList _ _ _ ({ dst := some 15, op := .load 35 _, type := _, pos := _, after := _, guard := _ } :: _) _ _
           refine wpList_load_mid rfl 35 _ rfl b1 (o1 + j * 9) rfl q.cs _ HX.out Try.underlying35 rfl (by rw [Tr.cs_length]; kernel_rfl) ?_)
        | fail)
      refine HC.out.mono ?_
      rintro e w2 ⟨rfl, hb2⟩
      have HB2 := Lib.hid (HB.out.trans (hb2.mono HB.out.size))
      clear hb2
      obtain ⟨r, hrr⟩ : ∃ r, r = (decide (q.kind = 8) || decide (q.kind = 11)) := ⟨_, rfl⟩
      have HRr := Lib.hid hrr
      rw [← hrr]
      clear hrr
      cases r with
      | true =>
        have HF : Hid (idxFrom (fun q => decide (q.kind = 8) || decide (q.kind = 11)) L 0 = j) := Lib.hid (by rw [HI.out]; exact HFo.out HRr.out.symm)
        go_wp2_with fail
        go_ret
        exact ⟨by rw [HF.out]; rfl, HB2.out⟩
      | false =>
        have HF : Hid (idxFrom (fun q => decide (q.kind = 8) || decide (q.kind = 11)) L 0 = idxFrom (fun q => decide (q.kind = 8) || decide (q.kind = 11)) (L.drop (j + 1)) (j + 1)) := Lib.hid (by rw [HI.out]; exact HSt.out HRr.out.symm)
        go_wp2_with fail
        exact ⟨⟨j + 1, by omega, by go_num, HF, HB2⟩, by simp [intOf]; omega⟩
    · obtain rfl : j = L.length := by omega
      have HF : Hid (idxFrom (fun q => decide (q.kind = 8) || decide (q.kind = 11)) L 0 = -1) := Lib.hid (by rw [HI.out, List.drop_length]; rfl)
      go_wp2_with fail
      go_ret
      exact ⟨by rw [HF.out]; rfl, HB.out⟩

theorem idx_nonneg {f : Tr → Bool} : ∀ (L : List Tr) (i : Nat), (0 ≤ idxFrom f L i ↔ L.any f = true)
  | [], i => by simp [idxFrom]
  | q :: L, i => by
    unfold idxFrom
    rw [List.any_cons]
    by_cases h : f q = true
    · rw [if_pos h, h, Bool.true_or]; simp
    · have h' : f q = false := by simpa using h
      rw [if_neg h, h', Bool.false_or]
      exact idx_nonneg L (i + 1)

set_option maxRecDepth 100000 in
set_option maxHeartbeats 4000000 in
theorem tLate (v : Value) (L : List Tr) (w : World) (hL : LksAt w v L) (hl : L.length ≤ 1000000) :
    Calls Try.prog 9 #[.agg #[v]] w fun e w' => e = .returned (.bool (L.any (fun q => decide (q.kind = 8) || decide (q.kind = 11)))) ∧ Below w.heap.size w w' := by
  have hB : Below w.heap.size w (w.alloc (.cells #[v] 26)) := (Below.refl _ _).alloc (Nat.le_refl _) _
  have hA : At (w.alloc (.cells #[v] 26)) w.heap.size 26 #[v] := At.new _ _ _
  have c0 : (w.alloc (.cells #[v] 26)).cell? ⟨w.heap.size, 0, none⟩ = some v := hA.cell 0
  have HI := Lib.hid (tIdxLate v L (w.alloc (.cells #[v] 26)) (hL.next hB) hl)
  have HB := Lib.hid hB
  have HC : Hid (Calls Try.prog 20 #[v, .func (.func 21) #[] #[]] (w.alloc (.cells #[v] 26)) fun e w' => e = .returned (.bool (L.any (fun q => decide (q.kind = 8) || decide (q.kind = 11)))) ∧ Below (w.alloc (.cells #[v] 26)).heap.size (w.alloc (.cells #[v] 26)) w') := Lib.hid (by
    have HN := Lib.hid (idx_nonneg (f := fun q => decide (q.kind = 8) || decide (q.kind = 11)) L 0)
    clear hA c0 hL
    generalize w.alloc (.cells #[v] 26) = w1 at HI ⊢
    generalize idxFrom (fun q => decide (q.kind = 8) || decide (q.kind = 11)) L 0 = z at HI HN
    generalize L.any (fun q => decide (q.kind = 8) || decide (q.kind = 11)) = r at HN ⊢
    go_enter Try.func20, Try.ntmps20
    go_wp2_with fail
    refine HI.out.mono ?_
    rintro e w2 ⟨rfl, hb2⟩
    have HB2 := Lib.hid hb2
    clear hb2
    cases r with
    | true =>
      have d : decide ((0 : Int) ≤ z) = true := decide_eq_true (HN.out.2 rfl)
      go_wp2_with fail
      go_ret
      exact ⟨rfl, HB2.out⟩
    | false =>
      have d : decide ((0 : Int) ≤ z) = false := decide_eq_false (fun q => by have := HN.out.1 q; cases this)
      go_wp2_with fail
      go_ret
      exact ⟨rfl, HB2.out⟩)
  clear hA hB hL
  go_enter Try.func9, Try.ntmps9
  go_wp2_with fail
  refine HC.out.mono ?_
  rintro e w2 ⟨rfl, hb2⟩
  have HB2 := Lib.hid (HB.out.trans (hb2.mono HB.out.size))
  clear hb2 c0
  go_wp2_with fail
  go_ret
  exact ⟨rfl, HB2.out⟩

set_option maxRecDepth 100000 in
set_option maxHeartbeats 4000000 in
theorem tIndex (v : Value) (L : List Tr) (t : Tr) (w : World) (hL : LksAt w v L) (hl : L.length ≤ 1000000) (ht : Tr.Ins w 40 t) :
    Calls Try.prog 12 #[.agg #[v], .agg t.cs.toArray] w fun e w' => e = .returned (.int .i64 (idxS L t)) ∧ Below w.heap.size w w' := by
  obtain ⟨w2, hw2⟩ : ∃ w2, w2 = (w.alloc (.cells #[v] 26)).alloc (.cells (bareT t).cs.toArray 35) := ⟨_, rfl⟩
  have hB : Below w.heap.size w w2 := by rw [hw2]; exact below_two _ _
  have hA1 : At w2 w.heap.size 26 #[v] := by rw [hw2]; exact (At.new _ _ _).alloc _
  have hA2 : At w2 (w.heap.size + 1) 35 (bareT t).cs.toArray := by rw [hw2]; exact at_new' (w.alloc (.cells #[v] 26)) (w.heap.size + 1) 35 (cs := (bareT t).cs.toArray) (by simp)
  have c0 : w2.cell? ⟨w.heap.size, 0, none⟩ = some v := hA1.cell 0
  have HI := Lib.hid (tIdxIndex v L w2 (hL.next hB) hl (bareT t) (w.heap.size + 1) (bare_ins (ht.next hB)) hA2)
  have HB := Lib.hid hB
  have hA3 := at_new' (w.alloc (.cells #[v] 26)) (w.heap.size + 1) 35 (cs := t.cs.toArray) (by simp)
  have f8 := hA3.free 8
  have q8 := hA3.cell 8
  rw [bareT_cs, List.setIfInBounds_toArray] at hw2
  have HW := Lib.hid hw2
  unfold idxS
  clear hA1 hA2 hB hL hw2 hA3 ht
  go_enter Try.func12, Try.ntmps12
  rw [HW.out] at c0
  go_wp2_with fail
  rw [← HW.out]
  refine HI.out.mono ?_
  rintro e w3 ⟨rfl, hb3⟩
  have HB3 := Lib.hid (HB.out.trans (hb3.mono HB.out.size))
  clear hb3 c0 f8 q8
  go_wp2_with fail
  go_ret
  exact ⟨rfl, HB3.out⟩

end Go.Proofs.Ytjkcbojlopdonaa
