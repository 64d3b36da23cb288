/- The parser: all of it, by induction on how many words are left. -/
import Derived.Test.YtkbfoelffeocmaaParseE
import Derived.Test.YtkbfoelffeocmaaParseF
namespace Go.Proofs.Ytkbfoelffeocmaa
open Go.RowKit
set_option linter.unusedSimpArgs false
set_option linter.unusedVariables false

theorem nots_good {E n : Nat} {m : PSt → Tr × PSt} (h : PGood n m) : ∀ (f : Nat) (l : List Tr) (s : PSt), s.ws.length < n → (nots E m f l s).2.ws <:+ s.ws ∧ (nots E m f l s).2.op = s.op
  | 0, l, s, hs => ⟨List.suffix_refl _, rfl⟩
  | f + 1, l, s, hs => by
    unfold nots
    split
    · have h1 := h s hs
      have h2 := nots_good (E := E) h f (l ++ [(m s).1]) (m s).2 (Nat.lt_of_le_of_lt h1.1.length_le hs)
      exact ⟨h2.1.trans h1.1, h2.2.trans h1.2⟩
    · exact ⟨List.suffix_refl _, rfl⟩
theorem cat_good {E n f : Nat} {m : PSt → Tr × PSt} (h : PGood n m) : PGood n (catS E m f) := fun s hs => nots_good h f [] s hs
theorem rest_good {E n : Nat} {sg : Int} {m : PSt → Tr × PSt} (h : PGood n m) : ∀ (f : Nat) (l : List Tr) (s : PSt), s.ws.length < n → (restS E sg m f l s).2.ws <:+ s.ws ∧ (restS E sg m f l s).2.op = s.op
  | 0, l, s, hs => ⟨List.suffix_refl _, rfl⟩
  | f + 1, l, s, hs => by
    unfold restS
    split
    · have h1 := h (nextS s) (Nat.lt_of_le_of_lt (next_ws s).length_le hs)
      have h2 := rest_good (E := E) (sg := sg) h f (l ++ [(m (nextS s)).1]) (m (nextS s)).2 (Nat.lt_of_le_of_lt (h1.1.trans (next_ws s)).length_le hs)
      exact ⟨h2.1.trans (h1.1.trans (next_ws s)), h2.2.trans h1.2⟩
    · exact ⟨List.suffix_refl _, rfl⟩
theorem between_good {E n f : Nat} {sg kd : Int} {m : PSt → Tr × PSt} (h : PGood n m) : PGood n (betweenS E sg kd m f) := fun s hs => by
  have h1 := h s hs
  have h2 := rest_good (E := E) (sg := sg) h f [(m s).1] (m s).2 (Nat.lt_of_le_of_lt h1.1.length_le hs)
  exact ⟨h2.1.trans h1.1, h2.2.trans h1.2⟩
theorem or_good {E n f : Nat} {m : PSt → Tr × PSt} (h : PGood n m) : PGood n (orS E m f) := between_good (between_good (cat_good h))
theorem look_good (ds : List (ByteArray × Tr)) (x : Wd × Nat) (s : PSt) : (lookS ds x s).2.ws <:+ s.ws ∧ (lookS ds x s).2.op = s.op := by
  induction ds with
  | nil => exact ⟨fail_ws _ _ _, fail_op _ _ _⟩
  | cons d r ih =>
    unfold lookS
    split
    · exact ⟨List.suffix_refl _, rfl⟩
    · exact ih
theorem bracket_good {E n f : Nat} {m : PSt → Tr × PSt} (h : PGood n (orS E m f)) (p : Nat) (s : PSt) (hs : s.ws.length < n) : (bracketS E m f p s).2.ws <:+ s.ws ∧ (bracketS E m f p s).2.op = s.op := by
  have h1 := h (enterS p s) (Nat.lt_of_le_of_lt (enter_ws p s).length_le hs)
  have h0 := h1.1.trans (enter_ws p s)
  have h2 := enter_op p s
  unfold bracketS
  dsimp only
  generalize orS E m f (enterS p s) = r at h1 h0 ⊢
  have h3 : (leaveS r.2).op = s.op := by show r.2.op - 1 = _; rw [h1.2, h2]; omega
  have h4 : (leaveS r.2).ws <:+ s.ws := h0
  split
  · exact ⟨(next_ws _).trans h4, h3⟩
  · exact ⟨(fail_ws _ _ _).trans ((next_ws _).trans h4), by rw [fail_op]; exact h3⟩
theorem atom_good' {E n f : Nat} {m : PSt → Tr × PSt} {ds : List (ByteArray × Tr)} (h : PGood n (orS E m f)) (s : PSt) (hs : s.ws.length < n + 1) : (atomS E ds m f s).2.ws <:+ (nextS s).ws ∧ (atomS E ds m f s).2.op = s.op := by
  obtain ⟨x, hx⟩ : ∃ x, peekS E s = x := ⟨_, rfl⟩
  have hb : x.1.kind ≠ 0 → (bracketS E m f x.2 (nextS s)).2.ws <:+ (nextS s).ws ∧ (bracketS E m f x.2 (nextS s)).2.op = s.op := fun hk => by
    have e := peek_some hx hk
    have e2 : s.ws.length = (nextS s).ws.length + 1 := by rw [e]; simp
    exact bracket_good h x.2 (nextS s) (by omega)
  unfold atomS
  dsimp only
  rw [hx]
  split
  · exact ⟨List.suffix_refl _, rfl⟩
  split
  · exact look_good ds x (nextS s)
  split
  · exact ⟨List.suffix_refl _, rfl⟩
  split
  · exact ⟨List.suffix_refl _, rfl⟩
  split
  · exact hb (by omega)
  split
  · exact hb (by omega)
  split
  · exact hb (by omega)
  · exact ⟨fail_ws _ _ _, fail_op _ _ _⟩
theorem atom_good {E n f : Nat} {m : PSt → Tr × PSt} {ds : List (ByteArray × Tr)} (h : PGood n (orS E m f)) : PGood (n + 1) (atomS E ds m f) := fun s hs => by
  have := atom_good' (ds := ds) h s hs
  exact ⟨this.1.trans (next_ws s), this.2⟩
theorem posts_good {E : Nat} : ∀ (f : Nat) (t : Tr) (s : PSt), (postsS E f t s).2.ws <:+ s.ws ∧ (postsS E f t s).2.op = s.op
  | 0, t, s => ⟨List.suffix_refl _, rfl⟩
  | f + 1, t, s => by
    unfold postsS
    split
    · have := posts_good (E := E) f (nodeT 7 [t] (timesW (peekS E s).1).1 (timesW (peekS E s).1).2.1 false) (nextS s)
      exact ⟨this.1.trans (next_ws s), this.2⟩
    · exact ⟨List.suffix_refl _, rfl⟩
theorem post_good' {E n f f' : Nat} {m : PSt → Tr × PSt} {ds : List (ByteArray × Tr)} (h : PGood n (orS E m f)) (s : PSt) (hs : s.ws.length < n + 1) : (postS E ds m f s).2.ws <:+ (nextS s).ws ∧ (postS E ds m f s).2.op = s.op := by
  have h1 := atom_good' (ds := ds) h s hs
  have h2 := posts_good (E := E) f (atomS E ds m f s).1 (atomS E ds m f s).2
  exact ⟨h2.1.trans h1.1, h2.2.trans h1.2⟩
theorem not_good {E : Nat} {ds : List (ByteArray × Tr)} : ∀ f, PGood f (notS E ds f) ∧ PStrict E f (notS E ds f)
  | 0 => ⟨fun s hs => absurd hs (Nat.not_lt_zero _), fun s hs => absurd hs (Nat.not_lt_zero _)⟩
  | f + 1 => by
    have ih := (not_good (E := E) (ds := ds) f).1
    have key : ∀ s : PSt, s.ws.length < f + 1 → (notS E ds (f + 1) s).2.ws <:+ (nextS s).ws ∧ (notS E ds (f + 1) s).2.op = s.op := fun s hs => by
      show (if (peekS E s).1.kind = 6 then _ else _ : Tr × PSt).2.ws <:+ _ ∧ (if (peekS E s).1.kind = 6 then _ else _ : Tr × PSt).2.op = _
      split
      · rename_i h6
        have e := peek_some (E := E) (s := s) rfl (by omega)
        have e2 : s.ws.length = (nextS s).ws.length + 1 := by rw [e]; simp
        have h1 := ih (enterS (peekS E s).2 (nextS s)) (by have := (enter_ws (peekS E s).2 (nextS s)).length_le; omega)
        refine ⟨h1.1.trans (enter_ws _ _), ?_⟩
        show (notS E ds f (enterS (peekS E s).2 (nextS s))).2.op - 1 = s.op
        rw [h1.2, enter_op, next_op]; omega
      · exact post_good' (f' := 0) (or_good ih) s hs
    refine ⟨fun s hs => ⟨(key s hs).1.trans (next_ws s), (key s hs).2⟩, fun s hs hb => ?_⟩
    have hk : (peekS E s).1.kind ≠ 0 := fun e => by rw [e] at hb; exact absurd hb (by decide)
    have e := peek_some (E := E) (s := s) rfl hk
    have e2 : s.ws.length = (nextS s).ws.length + 1 := by rw [e]; simp
    have := (key s hs).1.length_le
    omega

/-- The function not of the parser, and or above it. -/
theorem pOrOf (W0 : World) (g E : Nat) (D : Value) (ds : List (ByteArray × Tr)) (n f : Nat) (hE : E ≤ 20000) (hH0 : W0.heap.size ≤ g) (hnf : n ≤ f) (h : PCalls 75 W0 g E D n (notS E ds n)) :
    PCalls 36 W0 g E D n (orS E (notS E ds n) f) := by
  have hg := not_good (E := E) (ds := ds) n
  have h1 := pCat W0 g E D n f (notS E ds n) hE hH0 h hg.1 hg.2 hnf
  have h2 := pAnd W0 g E D n f (catS E (notS E ds n) f) hE hH0 h1 (cat_good hg.1) hnf
  exact pOr W0 g E D n f (betweenS E 5 5 (catS E (notS E ds n) f) f) hE hH0 h2 (between_good (cat_good hg.1)) hnf
theorem pNotAll (W0 : World) (g E : Nat) (D : Value) (ds : List (ByteArray × Tr)) (hD : DefsIn W0 D ds) (hE : E ≤ 20000) (hH0 : W0.heap.size ≤ g) : ∀ f, PCalls 75 W0 g E D f (notS E ds f)
  | 0 => fun s w h hW hok hn => absurd hn (Nat.not_lt_zero _)
  | f + 1 => by
    have ih := pNotAll W0 g E D ds hD hE hH0 f
    have hg := not_good (E := E) (ds := ds) f
    have h1 := pOrOf W0 g E D ds f (f + 1) hE hH0 (Nat.le_succ _) ih
    have h2 := pAtom W0 g E D ds f (f + 1) (notS E ds f) hD hE hH0 h1 (or_good hg.1)
    have h3 := pPost W0 g E D ds (f + 1) (f + 1) (notS E ds f) hE hH0 h2 (atom_good (or_good hg.1)) (Nat.le_refl _)
    exact pNot W0 g E D ds f hE hH0 ih hg.1 h3

set_option maxRecDepth 100000 in
set_option maxHeartbeats 8000000 in
theorem pWhole (W0 : World) (g E : Nat) (D : Value) (ds : List (ByteArray × Tr)) (hD : DefsIn W0 D ds) (n : Nat) (hE : E ≤ 20000) (hH0 : W0.heap.size ≤ g) :
    PCalls 25 W0 g E D n (wholeS E ds n) := by
  intro s w h hW hok hn ho1 ho2
  have HOR := Lib.hid (pOrOf W0 g E D ds n n hE hH0 (Nat.le_refl _) (pNotAll W0 g E D ds hD hE hH0 n))
  have HWW := Lib.hid hW
  have HOK := Lib.hid hok
  have HOP : Hid (0 ≤ s.op ∧ s.op + s.ws.length ≤ 20000 ∧ s.ws.length < n) := Lib.hid ⟨ho1, ho2, hn⟩
  obtain ⟨Q, hQ⟩ : ∃ Q, orS E (notS E ds n) n s = Q := ⟨_, rfl⟩
  have HQ := Lib.hid hQ
  obtain ⟨x, hx⟩ : ∃ x, peekS E Q.2 = x := ⟨_, rfl⟩
  have HX := Lib.hid hx
  obtain ⟨R, hR⟩ : ∃ R, wholeS E ds n s = R := ⟨_, rfl⟩
  have HR : Hid (R = (Q.1, if x.1.kind = 0 then Q.2 else failS x.2 2 Q.2)) := Lib.hid (by rw [← hR]; unfold wholeS; dsimp only; rw [hQ, hx])
  rw [hR]
  clear hD hW hok hn ho1 ho2 hQ hx hR
  obtain ⟨w1, hw1⟩ : ∃ w1, w1 = w.alloc (.cells #[.int .i64 0, .int .u64 0, .int .u64 0, .int .u64 0, .int .u64 0, .slice none 0 0, .int .i64 0, .int .i64 0, .bool false] 34) := ⟨_, rfl⟩
  have hb1 : Below w.heap.size w w1 := by rw [hw1]; exact (Below.refl _ _).alloc (Nat.le_refl _) _
  have hz1 : At w1 w.heap.size 34 Tr.blank.cs.toArray := by rw [hw1]; exact At.new w 34 Tr.blank.cs.toArray
  have hsz1 : w1.heap.size = w.heap.size + 1 := by rw [hw1]; simp
  have HLT := Lib.hid h.lt
  have HNE : Hid (w.heap.size ≠ g) := Lib.hid (by have := HLT.out; omega)
  have HSZ := Lib.hid hsz1
  have HP_0 := Lib.hid (h.next hb1)
  have HZ_0 := Lib.hid hz1
  have HG_0 := Lib.hid (grownBy_below (grownBy_refl w (some g)) hb1)
  have HW1 := Lib.hid hw1
  clear hb1 hz1 hw1 h hsz1
  go_enter Try.func25, Try.ntmps25
  go_wp2_with fail
  rw [← HW1.out]
  refine (HOR.out s _ HP_0.out (below_W HWW.out HG_0.out hH0 HLT.out) HOK.out HOP.out.2.2 HOP.out.1 HOP.out.2.1).mono ?_
  rintro e w2 ⟨t, rfl, hi, hp, hg⟩
  have HLHT := Lib.hid HP_0.out.lt
  have HMHT := Lib.hid HZ_0.out.lt
  have HQHT := Lib.hid hg.size
  have HP_1 := Lib.hid (hp)
  have HG_1 := Lib.hid (grownBy_trans HG_0.out hg)
  have HZ_1 := Lib.hid (At.grown' HZ_0.out hg (fun q => by cases q; exact HNE.out rfl))
  have HT_1 := Lib.hid (hi)
  clear hp hg hi
  rw [HQ.out] at HP_1 HT_1
  have HNHBt : Hid (w2.heap.size ≠ g) := Lib.hid (by have := HP_1.out.lt; omega)
  have hb := boxW_next w2 t
  have HP_2 := Lib.hid (HP_1.out.next hb)
  have HG_2 := Lib.hid (grownBy_below HG_1.out hb)
  have HZ_2 := Lib.hid (At.below HZ_1.out hb HZ_1.out.lt)
  have HT_2 := Lib.hid (HT_1.out.next hb)
  have HBt_2 := Lib.hid (boxW_at w2 t)
  have honeHBt := Tr.one t
  clear hb
  go_wp2_with (first
    | (with_reducible show wpList _ _ _ ({ dst := none, op := .store _ _ _, type := _, pos := _, after := _, guard := _ } :: _) _ _
       refine wpList_store_row rfl 34 _ _ rfl w2.heap.size t.cs.toArray rfl rfl 34 Tr.blank.cs.toArray (At.new _ _ _) (by kernel_rfl) rfl honeHBt ?_
       change Exit.then _ _ _ _ (boxW w2 t))
    | fail)
  refine (pPeek g E D Q.2 _ HP_2.out hE).mono ?_
  rintro e w4 ⟨rfl, hb⟩
  have HP_3 := Lib.hid (HP_2.out.next hb)
  have HG_3 := Lib.hid (grownBy_below HG_2.out hb)
  have HZ_3 := Lib.hid (At.below HZ_2.out hb HZ_2.out.lt)
  have HBt_3 := Lib.hid (At.below HBt_2.out hb HBt_2.out.lt)
  have HT_3 := Lib.hid (HT_2.out.next hb)
  clear hb
  rw [HX.out]
  have HNHBx : Hid (w4.heap.size ≠ g) := Lib.hid (by have := HP_3.out.lt; omega)
  have hb := boxWd_next w4 x.1 x.2
  have HP_4 := Lib.hid (HP_3.out.next hb)
  have HG_4 := Lib.hid (grownBy_below HG_3.out hb)
  have HZ_4 := Lib.hid (At.below HZ_3.out hb HZ_3.out.lt)
  have HBt_4 := Lib.hid (At.below HBt_3.out hb HBt_3.out.lt)
  have HT_4 := Lib.hid (HT_3.out.next hb)
  have HBx_4 := Lib.hid (boxWd_at w4 x.1 x.2)
  have honeHBx := Wd.one x.1 x.2
  clear hb
  by_cases h0 : x.1.kind = 0
  · have HRR : Hid (R = (Q.1, Q.2)) := Lib.hid (by rw [HR.out, if_pos h0])
    have c0 := HBx_4.out.cell 0
    rw [show (wdCells x.1 x.2)[0]? = some (.int .i64 x.1.kind) from rfl, h0] at c0
    clear h0
    go_wp2_with (first
      | (with_reducible show wpList _ _ _ ({ dst := none, op := .store _ _ _, type := _, pos := _, after := _, guard := _ } :: _) _ _
         refine wpList_store_row rfl 57 _ _ rfl w4.heap.size (wdCells x.1 x.2) rfl rfl 57 (wdCells wd0 0) (At.new _ _ _) (by kernel_rfl) rfl honeHBx ?_
         change Exit.then _ _ _ _ (boxWd w4 x.1 x.2))
      | (refine wpList_load_row rfl 34 _ rfl w2.heap.size rfl 34 t.cs.toArray (0, 0) _ HBt_4.out Try.underlying34 rfl (by kernel_rfl) ?_)
      | (with_reducible show wpList _ _ _ ({ dst := none, op := .store _ _ _, type := _, pos := _, after := _, guard := _ } :: _) _ _
         refine wpList_store_row rfl 34 _ _ rfl w.heap.size t.cs.toArray rfl rfl 34 Tr.blank.cs.toArray HZ_4.out (by kernel_rfl) rfl honeHBt ?_)
      | fail)
    have ho : Only w.heap.size (boxWd w4 x.1 x.2) ((boxWd w4 x.1 x.2).setRow w.heap.size t.cs.toArray) := Only.row _ _ _
    exact bodyPost_ret (results_cell_row Try.results25 _ _ w.heap.size 34 t.cs.toArray (0, 0) _ rfl (HZ_4.out.row _) Try.underlying34 rfl (by kernel_rfl)) rfl ⟨t, rfl, by rw [HRR.out]; exact (HT_4.out.grown ho.grownBy (Nat.le_trans hH0 (Nat.le_of_lt HLT.out)) HMHT.out).lower (Nat.le_of_lt HMHT.out), (by rw [HRR.out]; exact HP_4.out.keep (ho.below (Nat.le_refl _)) HLT.out), grownBy_from HG_4.out (ho.below (Nat.le_refl _)) (Nat.le_refl _)⟩
  · have HRR : Hid (R = (Q.1, failS x.2 2 Q.2)) := Lib.hid (by rw [HR.out, if_neg h0])
    have c0 := HBx_4.out.cell 0
    have c1 := HBx_4.out.cell 1
    rw [show (wdCells x.1 x.2)[0]? = some (.int .i64 x.1.kind) from rfl] at c0
    rw [show (wdCells x.1 x.2)[1]? = some (.int .i64 x.2) from rfl] at c1
    have hne := (int_ne h0).2
    clear h0
    go_wp2_with (first
      | (with_reducible show wpList _ _ _ ({ dst := none, op := .store _ _ _, type := _, pos := _, after := _, guard := _ } :: _) _ _
         refine wpList_store_row rfl 57 _ _ rfl w4.heap.size (wdCells x.1 x.2) rfl rfl 57 (wdCells wd0 0) (At.new _ _ _) (by kernel_rfl) rfl honeHBx ?_
         change Exit.then _ _ _ _ (boxWd w4 x.1 x.2))
      | fail)
    refine (pFail g E D _ x.2 2 _ HP_4.out).mono ?_
    rintro e w6 ⟨rfl, hp, hg⟩
    have HP_5 := Lib.hid (hp)
    have HG_5 := Lib.hid (grownBy_trans HG_4.out hg)
    have HZ_5 := Lib.hid (At.grown' HZ_4.out hg (fun q => by cases q; exact HNE.out rfl))
    have HBt_5 := Lib.hid (At.grown' HBt_4.out hg (fun q => by cases q; exact HNHBt.out rfl))
    have HBx_5 := Lib.hid (At.grown' HBx_4.out hg (fun q => by cases q; exact HNHBx.out rfl))
    have HT_5 := Lib.hid (HT_4.out.grown hg hH0 HLHT.out)
    clear hp hg
    go_wp2_with (first
      | (refine wpList_load_row rfl 34 _ rfl w2.heap.size rfl 34 t.cs.toArray (0, 0) _ HBt_5.out Try.underlying34 rfl (by kernel_rfl) ?_)
      | (with_reducible show wpList _ _ _ ({ dst := none, op := .store _ _ _, type := _, pos := _, after := _, guard := _ } :: _) _ _
         refine wpList_store_row rfl 34 _ _ rfl w.heap.size t.cs.toArray rfl rfl 34 Tr.blank.cs.toArray HZ_5.out (by kernel_rfl) rfl honeHBt ?_)
      | fail)
    have ho : Only w.heap.size w6 (w6.setRow w.heap.size t.cs.toArray) := Only.row _ _ _
    exact bodyPost_ret (results_cell_row Try.results25 _ _ w.heap.size 34 t.cs.toArray (0, 0) _ rfl (HZ_5.out.row _) Try.underlying34 rfl (by kernel_rfl)) rfl ⟨t, rfl, by rw [HRR.out]; exact (HT_5.out.grown ho.grownBy (Nat.le_trans hH0 (Nat.le_of_lt HLT.out)) HMHT.out).lower (Nat.le_of_lt HMHT.out), (by rw [HRR.out]; exact HP_5.out.keep (ho.below (Nat.le_refl _)) HLT.out), grownBy_from HG_5.out (ho.below (Nat.le_refl _)) (Nat.le_refl _)⟩

end Go.Proofs.Ytkbfoelffeocmaa
