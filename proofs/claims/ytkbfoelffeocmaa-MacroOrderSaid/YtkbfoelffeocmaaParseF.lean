/- The parser: rows of members. -/
import Derived.Test.YtkbfoelffeocmaaParseC
namespace Go.Proofs.Ytkbfoelffeocmaa
open Go.RowKit
set_option linter.unusedSimpArgs false
set_option linter.unusedVariables false

theorem own_below {w w' : World} {B : Nat} {v : Value} (hg : w.grownBy w' v.ownBlock) (hb : ∀ b, v.ownBlock = some b → B ≤ b) (hB : B ≤ w.heap.size) : Below B w w' :=
  ⟨hg.os, hg.tape, hg.output, hg.size, fun k hk => hg.block k (by omega) (fun e => by have := hb k e.symm; omega)⟩
theorem parts_one {w : World} {H0 Hh Hp : Nat} {t T : Tr} (h : Tr.Is w H0 Hp t T) (h1 : Hh ≤ Hp) (h2 : Hh ≤ w.heap.size) :
    PartsIn (w.alloc (.cells t.cs.toArray 34)) H0 Hh (.slice (some ⟨w.heap.size, 0, none⟩) 1 1) [t] [T] := by
  have h' := h.next (w' := w.alloc (.cells t.cs.toArray 34)) ((Below.refl _ _).alloc (Nat.le_refl _) _)
  have h'' := h.wide (Nat.le_refl _) w.heap.size (Nat.le_refl _)
  obtain ⟨k, i1, i2, i3⟩ := h'
  obtain ⟨m, j1, j2⟩ := h''
  refine ⟨by simpa using World.ownsRow_lit w t.cs.toArray 1 h2 (by unfold maxLen; omega) rfl, k, fun p hp => ?_, fun k' hk' => ?_⟩
  · have : p = t := by simpa using hp
    subst this
    exact ⟨i1, i2.lower h1, fun b e => by
      have e' : w.heap.size = b := by simpa [Value.ownBlock] using e
      subst e'
      exact Tr.Off.any j1.1 j2⟩
  · rw [List.map_singleton, i3 k' hk']
theorem nots_length {E : Nat} {m : PSt → Tr × PSt} : ∀ (f : Nat) (l : List Tr) (s : PSt), l.length ≤ (nots E m f l s).1.length
  | 0, l, s => Nat.le_refl _
  | f + 1, l, s => by
    unfold nots
    split
    · have := nots_length (E := E) (m := m) f (l ++ [(m s).1]) (m s).2
      simp at this; omega
    · exact Nat.le_refl _
/-- A not reads at least the word with which it begins. -/
def PStrict (E n : Nat) (m : PSt → Tr × PSt) : Prop := ∀ s, s.ws.length < n → notBegins (peekS E s).1.kind = true → (m s).2.ws.length < s.ws.length
set_option maxRecDepth 100000 in
set_option maxHeartbeats 8000000 in
theorem pCat (W0 : World) (g E : Nat) (D : Value) (n f : Nat) (m : PSt → Tr × PSt) (hE : E ≤ 20000) (hH0 : W0.heap.size ≤ g) (hm : PCalls 75 W0 g E D n m) (hgood : PGood n m) (hst : PStrict E n m) (hf : n ≤ f) :
    PCalls 68 W0 g E D n (catS E m f) := by
  intro s w h hW hok hn ho1 ho2
  have HM := Lib.hid hm
  have HGD := Lib.hid hgood
  have HST := Lib.hid hst
  have HWW := Lib.hid hW
  have HOK := Lib.hid hok
  have HOP : Hid (0 ≤ s.op ∧ s.op + s.ws.length ≤ 20000 ∧ s.ws.length < n ∧ n ≤ f) := Lib.hid ⟨ho1, ho2, hn, hf⟩
  obtain ⟨NR, hNR⟩ : ∃ NR, nots E m f [] s = NR := ⟨_, rfl⟩
  have HNR := Lib.hid hNR
  obtain ⟨R, hR⟩ : ∃ R, catS E m f s = R := ⟨_, rfl⟩
  have HR : Hid (R = (if NR.1.length = 0 then leafT 1 ⟨0, 0, 0, 0⟩ false else joinS 3 NR.1, NR.2)) := Lib.hid (by rw [← hR]; unfold catS; rw [hNR])
  rw [hR]
  obtain ⟨i0, hi0, hz0, hz1, hz2⟩ := info_parts info_re
  have hz1' : i0.size = 9 := hz1
  clear hm hgood hst hW hok hn ho1 ho2 hf hNR hR
  obtain ⟨w1, hw1⟩ : ∃ w1, w1 = w.alloc (.cells #[.int .i64 0, .int .u64 0, .int .u64 0, .int .u64 0, .int .u64 0, .slice none 0 0, .int .i64 0, .int .i64 0, .bool false] 34) := ⟨_, rfl⟩
  have hb1 : Below w.heap.size w w1 := by rw [hw1]; exact (Below.refl _ _).alloc (Nat.le_refl _) _
  have hz1a : At w1 w.heap.size 34 Tr.blank.cs.toArray := by rw [hw1]; exact At.new w 34 Tr.blank.cs.toArray
  have hsz1 : w1.heap.size = w.heap.size + 1 := by rw [hw1]; simp
  have HLT := Lib.hid h.lt
  have HNE : Hid (w.heap.size ≠ g) := Lib.hid (by have := HLT.out; omega)
  have HSZ := Lib.hid hsz1
  have HP_0 := Lib.hid (h.next hb1)
  have HZ_0 := Lib.hid hz1a
  have HG_0 := Lib.hid (grownBy_below (grownBy_refl w (some g)) hb1)
  have HW1 := Lib.hid hw1
  clear hb1 hz1a hw1 h hsz1
  go_enter Try.func68, Try.ntmps68
  go_wp2_with fail
  rw [← HW1.out]
  go_loopw [3] (fun i wr => ∃ (q : Nat) (s1 : PSt) (L Ls : List Tr), Hid (nots E m q Ls s1 = NR) ∧ Hid (s1.ws.length < q ∧ s1.ws.length < n ∧ 0 ≤ s1.op ∧ s1.op + s1.ws.length ≤ 20000 ∧ L.length + s1.ws.length ≤ 20000) ∧ Hid (WsOk s1.ws) ∧ Hid (PAt wr g E D s1) ∧ Hid (w.grownBy wr (some g)) ∧ Hid (At wr w.heap.size 34 Tr.blank.cs.toArray) ∧ Hid (PartsIn wr W0.heap.size (w.heap.size + 1) i L Ls) ∧ Hid (w.heap.size + 1 ≤ wr.heap.size)) (fun i wr => lenAt wr g)
  case atStart => exact ⟨f, s, [], [], HNR, Lib.hid (by have := HOP.out; refine ⟨by omega, by omega, by omega, by omega, ?_⟩; simp; omega), HOK, HP_0, HG_0, HZ_0, Lib.hid (PartsIn.nil _ _ _), Lib.hid (by rw [HSZ.out]; exact Nat.le_refl _)⟩
  case round =>
    clear HP_0 HG_0 HZ_0 HNR HOP HOK
    obtain ⟨q, s1, L, Ls, HN1, HQ, HO, HP, HG, HZ, HL, HS⟩ := hrel
    obtain ⟨x, hx⟩ : ∃ x, peekS E s1 = x := ⟨_, rfl⟩
    have HX1 := Lib.hid hx
    have HLN : Hid (lenAt wr g = s1.ws.length) := Lib.hid HP.out.len
    obtain ⟨A, c, hv⟩ := HL.out.form
    clear hx
    subst hv
    go_wp2_with fail
    refine (pPeek g E D s1 wr HP.out hE).mono ?_
    rintro e w4 ⟨rfl, hb⟩
    have HP_4 := Lib.hid (HP.out.next hb)
    have HG_4 := Lib.hid (grownBy_below HG.out hb)
    have HZ_4 := Lib.hid (At.below HZ.out hb HZ.out.lt)
    have HL_4 := Lib.hid (HL.out.next hb)
    have HS_4 := Lib.hid (Nat.le_trans HS.out hb.size)
    rw [HX1.out]
    have hfk := field_kind x.1 x.2 w4
    clear hb
    go_wp2_with fail
    clear hfk
    refine (pBegins x.1.kind w4).mono ?_
    rintro e w5 ⟨rfl, hb⟩
    have HP_5 := Lib.hid (HP_4.out.next hb)
    have HG_5 := Lib.hid (grownBy_below HG_4.out hb)
    have HZ_5 := Lib.hid (At.below HZ_4.out hb HZ_4.out.lt)
    have HL_5 := Lib.hid (HL_4.out.next hb)
    have HS_5 := Lib.hid (Nat.le_trans HS_4.out hb.size)
    clear hb
    obtain ⟨q', hq'⟩ : ∃ q', q = q' + 1 := ⟨q - 1, by have := HQ.out; omega⟩
    subst hq'
    cases hbn : notBegins x.1.kind with
    | true =>
      have HN2 : Hid (nots E m q' (Ls ++ [(m s1).1]) (m s1).2 = NR) := Lib.hid (by
        rw [← HN1.out]
        show _ = (if notBegins (peekS E s1).1.kind = true then _ else _)
        rw [HX1.out, hbn]; rfl)
      have hgd := HGD.out s1 HQ.out.2.1
      have hsd := HST.out s1 HQ.out.2.1 (by rw [HX1.out]; exact hbn)
      have HGS : Hid ((m s1).2.ws <:+ s1.ws ∧ (m s1).2.op = s1.op ∧ (m s1).2.ws.length < s1.ws.length) := Lib.hid ⟨hgd.1, hgd.2, hsd⟩
      have HM1 := Lib.hid (HM.out s1 w5 HP_5.out (below_W HWW.out HG_5.out hH0 HLT.out) HO.out HQ.out.2.1 HQ.out.2.2.1 HQ.out.2.2.2.1)
      clear hgd hsd hbn
      go_wp2_with fail
      refine HM1.out.mono ?_
      rintro e w6 ⟨p, rfl, hi, hp, hg⟩
      have honep := Tr.one p
      have HP_6 := Lib.hid hp
      have HG_6 := Lib.hid (grownBy_trans HG_5.out hg)
      have HZ_6 := Lib.hid (At.grown' HZ_5.out hg (fun q => by cases q; exact HNE.out rfl))
      have HL_6 := Lib.hid (HL_5.out.grown hg hH0 (by have := HLT.out; omega))
      have HT_6 := Lib.hid hi
      have HS_6 : Hid (w.heap.size + 1 ≤ w5.heap.size ∧ w5.heap.size ≤ w6.heap.size) := Lib.hid ⟨HS_5.out, hg.size⟩
      generalize m s1 = ms at HN2 HGS HP_6 HT_6
      obtain ⟨T, s2⟩ := ms
      clear hi hp hg
      obtain ⟨w7, hw7⟩ : ∃ w7, w7 = w6.alloc (.cells p.cs.toArray 34) := ⟨_, rfl⟩
      have hb7 : Below w6.heap.size w6 w7 := by rw [hw7]; exact (Below.refl _ _).alloc (Nat.le_refl _) _
      have HW7 := Lib.hid hw7
      have HAt7 : Hid (At w7 w6.heap.size 34 p.cs.toArray) := Lib.hid (by rw [hw7]; exact At.new _ _ _)
      have HP_7 := Lib.hid (HP_6.out.next hb7)
      have HG_7 := Lib.hid (grownBy_below HG_6.out hb7)
      have HZ_7 := Lib.hid (At.below HZ_6.out hb7 HZ_6.out.lt)
      have HL7 := Lib.hid (HL_6.out.next hb7)
      have HT_7 := Lib.hid (HT_6.out.next hb7)
      have HS7 : Hid (w.heap.size + 1 ≤ w7.heap.size) := Lib.hid (by have := hb7.size; have := HS_6.out; omega)
      have hLle : L.length ≤ 20000 := by have := HQ.out; omega
      clear hb7 hw7
      go_wp2_with (first
        | (with_reducible show wpList _ _ _ ({ dst := _, op := .buildSlice _ _ _, type := _, pos := _, after := _, guard := _ } :: _) _ _
           refine wpList_slice_tr rfl _ p rfl rfl ?_
           rw [← HW7.out])
        | (at_builtin
           refine wpList_append_lies _ rfl _ _ _ rfl (w.heap.size + 1) 34 i0 _ 9 88 Try.underlying32 hi0 hz0 hz1 hz2 rfl (by omega) _ L.length _ rfl HL7.out.own ⟨w6.heap.size, 0, none⟩ 1 1 p.cs rfl rfl ?c1 ?c2 ?c6 ?c3 ?c4 ?c5 _ rfl ?_
           case c1 => exact fun i u hu => by rw [Addr.add_mid, Nat.zero_add]; exact (HAt7.out.cell i).trans (by simpa using hu)
           case c2 => exact fun u hu => by have := honep; rw [Array.all_eq_true_iff_forall_mem] at this; exact this u (by simpa using hu)
           case c6 => omega
           case c3 => unfold maxLen; omega
           case c4 => omega
           case c5 => exact HS7.out
           intro gb cap w8 hown8 hg8 hat8 hlt8)
        | fail)
      have hlow : ∀ b, (Value.slice A L.length c).ownBlock = some b → w.heap.size + 1 ≤ b := fun b e => (HL7.out.low b e).1
      have hb8 := own_below hg8 hlow HS7.out
      have hpu := PartsIn.push HL7.out HT_7.out (by have := HS_6.out; omega) (fun b e => by have := (HL_5.out.low b e).2; exact this) (Nat.le_trans hH0 (by have := HLT.out; omega)) hown8 hg8 hat8 (Nat.le_refl _)
      have hP8 := HP_7.out.keep hb8 (by have := HLT.out; omega)
      refine ⟨⟨q', s2, L ++ [p], Ls ++ [T], HN2, Lib.hid ?_, Lib.hid (HO.out.suffix HGS.out.1), hP8, Lib.hid (grownBy_from HG_7.out hb8 (by omega)), Lib.hid (At.below HZ_7.out hb8 (by omega)), hpu, Lib.hid (Nat.le_trans HS7.out hg8.size)⟩, ?_⟩
      · have h1 := HQ.out
        have h2 := HGS.out
        have h2' : s2.op = s1.op := h2.2.1
        have h2'' : s2.ws.length < s1.ws.length := h2.2.2
        refine ⟨by omega, by omega, by omega, by omega, ?_⟩
        rw [List.length_append, List.length_singleton]; omega
      · rw [PAt.len hP8, HLN.out]; exact HGS.out.2.2
    | false =>
      have HNN : Hid (NR = (Ls, s1)) := Lib.hid (by
        rw [← HN1.out]
        show (if notBegins (peekS E s1).1.kind = true then _ else _) = _
        rw [HX1.out, hbn]; rfl)
      have HLL := Lib.hid HL.out.len
      clear hbn
      by_cases h0 : L.length = 0
      · have HRR : Hid (R = (leafT 1 ⟨0, 0, 0, 0⟩ false, s1)) := Lib.hid (by rw [HR.out, HNN.out]; dsimp only; rw [if_pos (by rw [← HLL.out]; exact h0)])
        rw [h0]
        clear h0
        have hone := Tr.one (leafT 1 ⟨0, 0, 0, 0⟩ false)
        go_wp2_with (first
          | (with_reducible show wpList _ _ _ ({ dst := none, op := .store _ _ _, type := _, pos := _, after := _, guard := _ } :: _) _ _
             refine wpList_store_row rfl 34 _ _ rfl w.heap.size (leafT 1 ⟨0, 0, 0, 0⟩ false).cs.toArray rfl rfl 34 Tr.blank.cs.toArray HZ_5.out (by kernel_rfl) rfl hone ?_)
          | fail)
        have ho : Only w.heap.size w5 (w5.setRow w.heap.size (leafT 1 ⟨0, 0, 0, 0⟩ false).cs.toArray) := Only.row _ _ _
        exact bodyPost_ret (results_cell_row Try.results68 _ _ w.heap.size 34 (leafT 1 ⟨0, 0, 0, 0⟩ false).cs.toArray (0, 0) _ rfl (HZ_5.out.row _) Try.underlying34 rfl (by kernel_rfl)) rfl ⟨_, rfl, by rw [HRR.out]; exact leaf_is _ _ _ _ _ _ zero_ok (by unfold I64; omega), by rw [HRR.out]; exact HP_5.out.keep (ho.below (Nat.le_refl _)) HLT.out, grownBy_from HG_5.out (ho.below (Nat.le_refl _)) (Nat.le_refl _)⟩
      · have HRR : Hid (R = (joinS 3 Ls, s1)) := Lib.hid (by rw [HR.out, HNN.out]; dsimp only; rw [if_neg (by rw [← HLL.out]; exact h0)])
        have hne1 : ¬ (L.length : Int) = 0 := by omega
        have hne := (int_ne hne1).1
        have HPO : Hid (0 < L.length) := Lib.hid (by omega)
        have HLL2 : Hid (L.length ≤ 20000) := Lib.hid (by have := HQ.out; omega)
        clear h0 hne1
        go_wp2_with fail
        refine (pJoin W0.heap.size (w.heap.size + 1) 3 L.length c A L Ls w5 HL_5.out rfl (by have := HLL2.out; omega) (by omega) HS_5.out HPO.out (Nat.le_trans hH0 (by have := HLT.out; omega))).mono ?_
        rintro e w6 ⟨t, rfl, hi, hb⟩
        have HP_6 := Lib.hid (HP_5.out.next hb)
        have HG_6 := Lib.hid (grownBy_below HG_5.out hb)
        have HZ_6 := Lib.hid (At.below HZ_5.out hb HZ_5.out.lt)
        have HT_6 := Lib.hid hi
        have hone := Tr.one t
        clear hi hb
        go_wp2_with (first
          | (with_reducible show wpList _ _ _ ({ dst := none, op := .store _ _ _, type := _, pos := _, after := _, guard := _ } :: _) _ _
             refine wpList_store_row rfl 34 _ _ rfl w.heap.size t.cs.toArray rfl rfl 34 Tr.blank.cs.toArray HZ_6.out (by kernel_rfl) rfl hone ?_)
          | fail)
        have ho : Only w.heap.size w6 (w6.setRow w.heap.size t.cs.toArray) := Only.row _ _ _
        exact bodyPost_ret (results_cell_row Try.results68 _ _ w.heap.size 34 t.cs.toArray (0, 0) _ rfl (HZ_6.out.row _) Try.underlying34 rfl (by kernel_rfl)) rfl ⟨_, rfl, by rw [HRR.out]; exact (HT_6.out.grown ho.grownBy (Nat.le_trans hH0 (Nat.le_of_lt HLT.out)) (Nat.lt_succ_self _)).lower (Nat.le_succ _), by rw [HRR.out]; exact HP_6.out.keep (ho.below (Nat.le_refl _)) HLT.out, grownBy_from HG_6.out (ho.below (Nat.le_refl _)) (Nat.le_refl _)⟩

set_option maxRecDepth 100000 in
set_option maxHeartbeats 8000000 in
theorem pBetweenAnd (W0 : World) (g E : Nat) (D : Value) (sg kd : Nat) (hkd : kd ≤ 20) (n f : Nat) (m : PSt → Tr × PSt) (hE : E ≤ 20000) (hH0 : W0.heap.size ≤ g) (hm : PCalls 68 W0 g E D n m) (hgood : PGood n m) (hf : n ≤ f) (hsg : 0 < sg) :
    ∀ (s : PSt) (w : World), PAt w g E D s → Below W0.heap.size W0 w → WsOk s.ws → s.ws.length < n → 0 ≤ s.op → s.op + s.ws.length ≤ 20000 → Calls Try.prog 53 #[.pointer (some ⟨g, 0, none⟩), .int .i64 sg, .int .i64 kd, .func (.func 68) #[.pointer (some ⟨g, 0, none⟩)] #[]] w (PRes W0 g E D w (betweenS E sg kd m f s)) := by
  intro s w h hW hok hn ho1 ho2
  have HM := Lib.hid hm
  have HGD := Lib.hid hgood
  have HWW := Lib.hid hW
  have HOK := Lib.hid hok
  have HOP : Hid (0 ≤ s.op ∧ s.op + s.ws.length ≤ 20000 ∧ s.ws.length < n ∧ n ≤ f) := Lib.hid ⟨ho1, ho2, hn, hf⟩
  obtain ⟨NR, hNR⟩ : ∃ NR, restS E sg m f [(m s).1] (m s).2 = NR := ⟨_, rfl⟩
  have HNR := Lib.hid hNR
  obtain ⟨R, hR⟩ : ∃ R, betweenS E sg kd m f s = R := ⟨_, rfl⟩
  have HR : Hid (R = (joinS kd NR.1, NR.2)) := Lib.hid (by rw [← hR]; unfold betweenS; rw [hNR])
  rw [hR]
  obtain ⟨i0, hi0, hz0, hz1, hz2⟩ := info_parts info_re
  have hz1' : i0.size = 9 := hz1
  clear hm hgood hW hok hn ho1 ho2 hf hNR hR
  obtain ⟨w1, hw1⟩ : ∃ w1, w1 = w.alloc (.cells #[.int .i64 0, .int .u64 0, .int .u64 0, .int .u64 0, .int .u64 0, .slice none 0 0, .int .i64 0, .int .i64 0, .bool false] 34) := ⟨_, rfl⟩
  have hb1 : Below w.heap.size w w1 := by rw [hw1]; exact (Below.refl _ _).alloc (Nat.le_refl _) _
  have hz1a : At w1 w.heap.size 34 Tr.blank.cs.toArray := by rw [hw1]; exact At.new w 34 Tr.blank.cs.toArray
  have hsz1 : w1.heap.size = w.heap.size + 1 := by rw [hw1]; simp
  have HLT := Lib.hid h.lt
  have HNE : Hid (w.heap.size ≠ g) := Lib.hid (by have := HLT.out; omega)
  have HSZ := Lib.hid hsz1
  have HP_0 := Lib.hid (h.next hb1)
  have HZ_0 := Lib.hid hz1a
  have HG_0 := Lib.hid (grownBy_below (grownBy_refl w (some g)) hb1)
  have HW1 := Lib.hid hw1
  clear hb1 hz1a hw1 h hsz1
  go_enter Try.func53, Try.ntmps53
  go_wp2_with fail
  rw [← HW1.out]
  have HM1 := Lib.hid (HM.out s w1 HP_0.out (below_W HWW.out HG_0.out hH0 HLT.out) HOK.out HOP.out.2.2.1 HOP.out.1 HOP.out.2.1)
  have hgd := HGD.out s HOP.out.2.2.1
  have HGS : Hid ((m s).2.ws <:+ s.ws ∧ (m s).2.op = s.op ∧ (m s).2.ws.length ≤ s.ws.length) := Lib.hid ⟨hgd.1, hgd.2, hgd.1.length_le⟩
  clear hgd
  refine HM1.out.mono ?_
  rintro e w6 ⟨p, rfl, hi, hp, hg⟩
  have honep := Tr.one p
  have HP_6 := Lib.hid hp
  have HG_6 := Lib.hid (grownBy_trans HG_0.out hg)
  have HZ_6 := Lib.hid (At.grown' HZ_0.out hg (fun q => by cases q; exact HNE.out rfl))
  have HT_6 := Lib.hid hi
  have HS_6 : Hid (w.heap.size + 1 ≤ w1.heap.size ∧ w1.heap.size ≤ w6.heap.size) := Lib.hid ⟨by rw [HSZ.out]; exact Nat.le_refl _, hg.size⟩
  generalize m s = ms at HNR HGS HP_6 HT_6
  obtain ⟨T, s2⟩ := ms
  clear hi hp hg
  have HL7 := Lib.hid (parts_one HT_6.out HS_6.out.1 (Nat.le_trans HS_6.out.1 HS_6.out.2))
  obtain ⟨w7, hw7⟩ : ∃ w7, w7 = w6.alloc (.cells p.cs.toArray 34) := ⟨_, rfl⟩
  have hb7 : Below w6.heap.size w6 w7 := by rw [hw7]; exact (Below.refl _ _).alloc (Nat.le_refl _) _
  have HW7 := Lib.hid hw7
  rw [← hw7] at HL7
  have HP_7 := Lib.hid (HP_6.out.next hb7)
  have HG_7 := Lib.hid (grownBy_below HG_6.out hb7)
  have HZ_7 := Lib.hid (At.below HZ_6.out hb7 HZ_6.out.lt)
  have HS7 : Hid (w.heap.size + 1 ≤ w7.heap.size) := Lib.hid (by have := hb7.size; have := HS_6.out; omega)
  clear hb7 hw7
  go_wp2_with (first
    | (with_reducible show wpList _ _ _ ({ dst := _, op := .buildSlice _ _ _, type := _, pos := _, after := _, guard := _ } :: _) _ _
       refine wpList_slice_tr rfl _ p rfl rfl ?_
       rw [← HW7.out])
    | fail)
  go_loopw [9] (fun i wr => ∃ (q : Nat) (s1 : PSt) (L Ls : List Tr), Hid (restS E sg m q Ls s1 = NR) ∧ Hid (s1.ws.length < q ∧ s1.ws.length < n ∧ 0 ≤ s1.op ∧ s1.op + s1.ws.length ≤ 20000 ∧ L.length + s1.ws.length ≤ 20001 ∧ 0 < L.length) ∧ Hid (WsOk s1.ws) ∧ Hid (PAt wr g E D s1) ∧ Hid (w.grownBy wr (some g)) ∧ Hid (At wr w.heap.size 34 Tr.blank.cs.toArray) ∧ Hid (PartsIn wr W0.heap.size (w.heap.size + 1) i L Ls) ∧ Hid (w.heap.size + 1 ≤ wr.heap.size)) (fun i wr => lenAt wr g)
  case atStart => exact ⟨f, s2, [p], [T], HNR, Lib.hid (by have := HOP.out; have h2 := HGS.out; have h2' : s2.op = s.op := h2.2.1; have h2'' : s2.ws.length ≤ s.ws.length := h2.2.2; refine ⟨by omega, by omega, by omega, by omega, ?_, by simp⟩; rw [List.length_singleton]; omega), Lib.hid (HOK.out.suffix HGS.out.1), HP_7, HG_7, HZ_7, HL7, HS7⟩
  case round =>
    clear HP_0 HG_0 HZ_0 HNR HOP HOK HM1 HGS HP_6 HG_6 HZ_6 HT_6 HS_6 HL7 HW7 HP_7 HG_7 HZ_7 HS7
    obtain ⟨q, s1, L, Ls, HN1, HQ, HO, HP, HG, HZ, HL, HS⟩ := hrel
    obtain ⟨x, hx⟩ : ∃ x, peekS E s1 = x := ⟨_, rfl⟩
    have HX1 := Lib.hid hx
    have HLN : Hid (lenAt wr g = s1.ws.length) := Lib.hid HP.out.len
    obtain ⟨A, c, hv⟩ := HL.out.form
    clear hx
    subst hv
    go_wp2_with fail
    refine (pTake g E D s1 sg wr HP.out hE).mono ?_
    rintro e w5 ⟨rfl, hp, hg⟩
    have HP_5 := Lib.hid hp
    have HG_5 := Lib.hid (grownBy_trans HG.out hg)
    have HZ_5 := Lib.hid (At.grown' HZ.out hg (fun q => by cases q; exact HNE.out rfl))
    have HL_5 := Lib.hid (HL.out.grown hg hH0 (by have := HLT.out; omega))
    have HS_5 := Lib.hid (Nat.le_trans HS.out hg.size)
    clear hp hg
    obtain ⟨q', hq'⟩ : ∃ q', q = q' + 1 := ⟨q - 1, by have := HQ.out; omega⟩
    subst hq'
    by_cases hbn : x.1.kind = sg
    ·
      have HTK : Hid (takeS E sg s1 = (true, nextS s1)) := Lib.hid (by unfold takeS; rw [HX1.out, if_pos hbn])
      have HN2 : Hid (restS E sg m q' (Ls ++ [(m (nextS s1)).1]) (m (nextS s1)).2 = NR) := Lib.hid (by
        rw [← HN1.out]
        show _ = (if (peekS E s1).1.kind = sg then _ else _)
        rw [HX1.out, if_pos hbn])
      have hne0 := peek_some HX1.out (by omega)
      have hl1 : s1.ws.length = (nextS s1).ws.length + 1 := by rw [hne0]; simp
      have hgd := HGD.out (nextS s1) (by have := HQ.out; omega)
      have HGS : Hid ((m (nextS s1)).2.ws <:+ s1.ws ∧ (m (nextS s1)).2.op = s1.op ∧ (m (nextS s1)).2.ws.length < s1.ws.length) := Lib.hid ⟨hgd.1.trans (next_ws s1), hgd.2, by have := hgd.1.length_le; omega⟩
      have HP_5 : Hid (PAt w5 g E D (nextS s1)) := by have := HP_5; rw [HTK.out] at this; exact this
      have HM1 := Lib.hid (HM.out (nextS s1) w5 HP_5.out (below_W HWW.out HG_5.out hH0 HLT.out) (HO.out.suffix (next_ws s1)) (by have := HQ.out; omega) HQ.out.2.2.1 (by have := HQ.out; rw [next_op]; omega))
      rw [HTK.out]
      clear hgd hbn hne0 hl1
      go_wp2_with fail
      refine HM1.out.mono ?_
      rintro e w6 ⟨p, rfl, hi, hp, hg⟩
      have honep := Tr.one p
      have HP_6 := Lib.hid hp
      have HG_6 := Lib.hid (grownBy_trans HG_5.out hg)
      have HZ_6 := Lib.hid (At.grown' HZ_5.out hg (fun q => by cases q; exact HNE.out rfl))
      have HL_6 := Lib.hid (HL_5.out.grown hg hH0 (by have := HLT.out; omega))
      have HT_6 := Lib.hid hi
      have HS_6 : Hid (w.heap.size + 1 ≤ w5.heap.size ∧ w5.heap.size ≤ w6.heap.size) := Lib.hid ⟨HS_5.out, hg.size⟩
      generalize m (nextS s1) = ms at HN2 HGS HP_6 HT_6
      obtain ⟨T, s2⟩ := ms
      clear hi hp hg
      obtain ⟨w7, hw7⟩ : ∃ w7, w7 = w6.alloc (.cells p.cs.toArray 34) := ⟨_, rfl⟩
      have hb7 : Below w6.heap.size w6 w7 := by rw [hw7]; exact (Below.refl _ _).alloc (Nat.le_refl _) _
      have HW7 := Lib.hid hw7
      have HAt7 : Hid (At w7 w6.heap.size 34 p.cs.toArray) := Lib.hid (by rw [hw7]; exact At.new _ _ _)
      have HP_7 := Lib.hid (HP_6.out.next hb7)
      have HG_7 := Lib.hid (grownBy_below HG_6.out hb7)
      have HZ_7 := Lib.hid (At.below HZ_6.out hb7 HZ_6.out.lt)
      have HL7 := Lib.hid (HL_6.out.next hb7)
      have HT_7 := Lib.hid (HT_6.out.next hb7)
      have HS7 : Hid (w.heap.size + 1 ≤ w7.heap.size) := Lib.hid (by have := hb7.size; have := HS_6.out; omega)
      have hLle : L.length ≤ 20001 := by have := HQ.out; omega
      clear hb7 hw7
      go_wp2_with (first
        | (with_reducible show wpList _ _ _ ({ dst := _, op := .buildSlice _ _ _, type := _, pos := _, after := _, guard := _ } :: _) _ _
           refine wpList_slice_tr rfl _ p rfl rfl ?_
           rw [← HW7.out])
        | (at_builtin
           refine wpList_append_lies _ rfl _ _ _ rfl (w.heap.size + 1) 34 i0 _ 9 88 Try.underlying32 hi0 hz0 hz1 hz2 rfl (by omega) _ L.length _ rfl HL7.out.own ⟨w6.heap.size, 0, none⟩ 1 1 p.cs rfl rfl ?c1 ?c2 ?c6 ?c3 ?c4 ?c5 _ rfl ?_
           case c1 => exact fun i u hu => by rw [Addr.add_mid, Nat.zero_add]; exact (HAt7.out.cell i).trans (by simpa using hu)
           case c2 => exact fun u hu => by have := honep; rw [Array.all_eq_true_iff_forall_mem] at this; exact this u (by simpa using hu)
           case c6 => omega
           case c3 => unfold maxLen; omega
           case c4 => omega
           case c5 => exact HS7.out
           intro gb cap w8 hown8 hg8 hat8 hlt8)
        | fail)
      have hlow : ∀ b, (Value.slice A L.length c).ownBlock = some b → w.heap.size + 1 ≤ b := fun b e => (HL7.out.low b e).1
      have hb8 := own_below hg8 hlow HS7.out
      have hpu := PartsIn.push HL7.out HT_7.out (by have := HS_6.out; omega) (fun b e => by have := (HL_5.out.low b e).2; exact this) (Nat.le_trans hH0 (by have := HLT.out; omega)) hown8 hg8 hat8 (Nat.le_refl _)
      have hP8 := HP_7.out.keep hb8 (by have := HLT.out; omega)
      refine ⟨⟨q', s2, L ++ [p], Ls ++ [T], HN2, Lib.hid ?_, Lib.hid (HO.out.suffix HGS.out.1), hP8, Lib.hid (grownBy_from HG_7.out hb8 (by omega)), Lib.hid (At.below HZ_7.out hb8 (by omega)), hpu, Lib.hid (Nat.le_trans HS7.out hg8.size)⟩, ?_⟩
      · have h1 := HQ.out
        have h2 := HGS.out
        have h2' : s2.op = s1.op := h2.2.1
        have h2'' : s2.ws.length < s1.ws.length := h2.2.2
        refine ⟨by omega, by omega, by omega, by omega, ?_, by simp⟩
        rw [List.length_append, List.length_singleton]; omega
      · rw [PAt.len hP8, HLN.out]; exact HGS.out.2.2
    ·
      have HTK : Hid (takeS E sg s1 = (false, s1)) := Lib.hid (by unfold takeS; rw [HX1.out, if_neg hbn])
      have HNN : Hid (NR = (Ls, s1)) := Lib.hid (by
        rw [← HN1.out]
        show (if (peekS E s1).1.kind = sg then _ else _) = _
        rw [HX1.out, if_neg hbn])
      have HRR : Hid (R = (joinS kd Ls, s1)) := Lib.hid (by rw [HR.out, HNN.out])
      have HP_5 : Hid (PAt w5 g E D s1) := by have := HP_5; rw [HTK.out] at this; exact this
      rw [HTK.out]
      have HPO : Hid (0 < L.length) := Lib.hid HQ.out.2.2.2.2.2
      have HLL2 : Hid (L.length ≤ 20001) := Lib.hid (by have := HQ.out; omega)
      clear hbn
      · go_wp2_with fail
        refine (pJoin W0.heap.size (w.heap.size + 1) kd L.length c A L Ls w5 HL_5.out rfl (by have := HLL2.out; omega) hkd HS_5.out HPO.out (Nat.le_trans hH0 (by have := HLT.out; omega))).mono ?_
        rintro e w6 ⟨t, rfl, hi, hb⟩
        have HP_6 := Lib.hid (HP_5.out.next hb)
        have HG_6 := Lib.hid (grownBy_below HG_5.out hb)
        have HZ_6 := Lib.hid (At.below HZ_5.out hb HZ_5.out.lt)
        have HT_6 := Lib.hid hi
        have hone := Tr.one t
        clear hi hb
        go_wp2_with (first
          | (with_reducible show wpList _ _ _ ({ dst := none, op := .store _ _ _, type := _, pos := _, after := _, guard := _ } :: _) _ _
             refine wpList_store_row rfl 34 _ _ rfl w.heap.size t.cs.toArray rfl rfl 34 Tr.blank.cs.toArray HZ_6.out (by kernel_rfl) rfl hone ?_)
          | fail)
        have ho : Only w.heap.size w6 (w6.setRow w.heap.size t.cs.toArray) := Only.row _ _ _
        exact bodyPost_ret (results_cell_row Try.results53 _ _ w.heap.size 34 t.cs.toArray (0, 0) _ rfl (HZ_6.out.row _) Try.underlying34 rfl (by kernel_rfl)) rfl ⟨_, rfl, by rw [HRR.out]; exact (HT_6.out.grown ho.grownBy (Nat.le_trans hH0 (Nat.le_of_lt HLT.out)) (Nat.lt_succ_self _)).lower (Nat.le_succ _), by rw [HRR.out]; exact HP_6.out.keep (ho.below (Nat.le_refl _)) HLT.out, grownBy_from HG_6.out (ho.below (Nat.le_refl _)) (Nat.le_refl _)⟩

set_option maxRecDepth 100000 in
set_option maxHeartbeats 8000000 in
theorem pBetweenOr (W0 : World) (g E : Nat) (D : Value) (sg kd : Nat) (hkd : kd ≤ 20) (n f : Nat) (m : PSt → Tr × PSt) (hE : E ≤ 20000) (hH0 : W0.heap.size ≤ g) (hm : PCalls 54 W0 g E D n m) (hgood : PGood n m) (hf : n ≤ f) (hsg : 0 < sg) :
    ∀ (s : PSt) (w : World), PAt w g E D s → Below W0.heap.size W0 w → WsOk s.ws → s.ws.length < n → 0 ≤ s.op → s.op + s.ws.length ≤ 20000 → Calls Try.prog 53 #[.pointer (some ⟨g, 0, none⟩), .int .i64 sg, .int .i64 kd, .func (.func 54) #[.pointer (some ⟨g, 0, none⟩)] #[]] w (PRes W0 g E D w (betweenS E sg kd m f s)) := by
  intro s w h hW hok hn ho1 ho2
  have HM := Lib.hid hm
  have HGD := Lib.hid hgood
  have HWW := Lib.hid hW
  have HOK := Lib.hid hok
  have HOP : Hid (0 ≤ s.op ∧ s.op + s.ws.length ≤ 20000 ∧ s.ws.length < n ∧ n ≤ f) := Lib.hid ⟨ho1, ho2, hn, hf⟩
  obtain ⟨NR, hNR⟩ : ∃ NR, restS E sg m f [(m s).1] (m s).2 = NR := ⟨_, rfl⟩
  have HNR := Lib.hid hNR
  obtain ⟨R, hR⟩ : ∃ R, betweenS E sg kd m f s = R := ⟨_, rfl⟩
  have HR : Hid (R = (joinS kd NR.1, NR.2)) := Lib.hid (by rw [← hR]; unfold betweenS; rw [hNR])
  rw [hR]
  obtain ⟨i0, hi0, hz0, hz1, hz2⟩ := info_parts info_re
  have hz1' : i0.size = 9 := hz1
  clear hm hgood hW hok hn ho1 ho2 hf hNR hR
  obtain ⟨w1, hw1⟩ : ∃ w1, w1 = w.alloc (.cells #[.int .i64 0, .int .u64 0, .int .u64 0, .int .u64 0, .int .u64 0, .slice none 0 0, .int .i64 0, .int .i64 0, .bool false] 34) := ⟨_, rfl⟩
  have hb1 : Below w.heap.size w w1 := by rw [hw1]; exact (Below.refl _ _).alloc (Nat.le_refl _) _
  have hz1a : At w1 w.heap.size 34 Tr.blank.cs.toArray := by rw [hw1]; exact At.new w 34 Tr.blank.cs.toArray
  have hsz1 : w1.heap.size = w.heap.size + 1 := by rw [hw1]; simp
  have HLT := Lib.hid h.lt
  have HNE : Hid (w.heap.size ≠ g) := Lib.hid (by have := HLT.out; omega)
  have HSZ := Lib.hid hsz1
  have HP_0 := Lib.hid (h.next hb1)
  have HZ_0 := Lib.hid hz1a
  have HG_0 := Lib.hid (grownBy_below (grownBy_refl w (some g)) hb1)
  have HW1 := Lib.hid hw1
  clear hb1 hz1a hw1 h hsz1
  go_enter Try.func53, Try.ntmps53
  go_wp2_with fail
  rw [← HW1.out]
  have HM1 := Lib.hid (HM.out s w1 HP_0.out (below_W HWW.out HG_0.out hH0 HLT.out) HOK.out HOP.out.2.2.1 HOP.out.1 HOP.out.2.1)
  have hgd := HGD.out s HOP.out.2.2.1
  have HGS : Hid ((m s).2.ws <:+ s.ws ∧ (m s).2.op = s.op ∧ (m s).2.ws.length ≤ s.ws.length) := Lib.hid ⟨hgd.1, hgd.2, hgd.1.length_le⟩
  clear hgd
  refine HM1.out.mono ?_
  rintro e w6 ⟨p, rfl, hi, hp, hg⟩
  have honep := Tr.one p
  have HP_6 := Lib.hid hp
  have HG_6 := Lib.hid (grownBy_trans HG_0.out hg)
  have HZ_6 := Lib.hid (At.grown' HZ_0.out hg (fun q => by cases q; exact HNE.out rfl))
  have HT_6 := Lib.hid hi
  have HS_6 : Hid (w.heap.size + 1 ≤ w1.heap.size ∧ w1.heap.size ≤ w6.heap.size) := Lib.hid ⟨by rw [HSZ.out]; exact Nat.le_refl _, hg.size⟩
  generalize m s = ms at HNR HGS HP_6 HT_6
  obtain ⟨T, s2⟩ := ms
  clear hi hp hg
  have HL7 := Lib.hid (parts_one HT_6.out HS_6.out.1 (Nat.le_trans HS_6.out.1 HS_6.out.2))
  obtain ⟨w7, hw7⟩ : ∃ w7, w7 = w6.alloc (.cells p.cs.toArray 34) := ⟨_, rfl⟩
  have hb7 : Below w6.heap.size w6 w7 := by rw [hw7]; exact (Below.refl _ _).alloc (Nat.le_refl _) _
  have HW7 := Lib.hid hw7
  rw [← hw7] at HL7
  have HP_7 := Lib.hid (HP_6.out.next hb7)
  have HG_7 := Lib.hid (grownBy_below HG_6.out hb7)
  have HZ_7 := Lib.hid (At.below HZ_6.out hb7 HZ_6.out.lt)
  have HS7 : Hid (w.heap.size + 1 ≤ w7.heap.size) := Lib.hid (by have := hb7.size; have := HS_6.out; omega)
  clear hb7 hw7
  go_wp2_with (first
    | (with_reducible show wpList _ _ _ ({ dst := _, op := .buildSlice _ _ _, type := _, pos := _, after := _, guard := _ } :: _) _ _
       refine wpList_slice_tr rfl _ p rfl rfl ?_
       rw [← HW7.out])
    | fail)
  go_loopw [9] (fun i wr => ∃ (q : Nat) (s1 : PSt) (L Ls : List Tr), Hid (restS E sg m q Ls s1 = NR) ∧ Hid (s1.ws.length < q ∧ s1.ws.length < n ∧ 0 ≤ s1.op ∧ s1.op + s1.ws.length ≤ 20000 ∧ L.length + s1.ws.length ≤ 20001 ∧ 0 < L.length) ∧ Hid (WsOk s1.ws) ∧ Hid (PAt wr g E D s1) ∧ Hid (w.grownBy wr (some g)) ∧ Hid (At wr w.heap.size 34 Tr.blank.cs.toArray) ∧ Hid (PartsIn wr W0.heap.size (w.heap.size + 1) i L Ls) ∧ Hid (w.heap.size + 1 ≤ wr.heap.size)) (fun i wr => lenAt wr g)
  case atStart => exact ⟨f, s2, [p], [T], HNR, Lib.hid (by have := HOP.out; have h2 := HGS.out; have h2' : s2.op = s.op := h2.2.1; have h2'' : s2.ws.length ≤ s.ws.length := h2.2.2; refine ⟨by omega, by omega, by omega, by omega, ?_, by simp⟩; rw [List.length_singleton]; omega), Lib.hid (HOK.out.suffix HGS.out.1), HP_7, HG_7, HZ_7, HL7, HS7⟩
  case round =>
    clear HP_0 HG_0 HZ_0 HNR HOP HOK HM1 HGS HP_6 HG_6 HZ_6 HT_6 HS_6 HL7 HW7 HP_7 HG_7 HZ_7 HS7
    obtain ⟨q, s1, L, Ls, HN1, HQ, HO, HP, HG, HZ, HL, HS⟩ := hrel
    obtain ⟨x, hx⟩ : ∃ x, peekS E s1 = x := ⟨_, rfl⟩
    have HX1 := Lib.hid hx
    have HLN : Hid (lenAt wr g = s1.ws.length) := Lib.hid HP.out.len
    obtain ⟨A, c, hv⟩ := HL.out.form
    clear hx
    subst hv
    go_wp2_with fail
    refine (pTake g E D s1 sg wr HP.out hE).mono ?_
    rintro e w5 ⟨rfl, hp, hg⟩
    have HP_5 := Lib.hid hp
    have HG_5 := Lib.hid (grownBy_trans HG.out hg)
    have HZ_5 := Lib.hid (At.grown' HZ.out hg (fun q => by cases q; exact HNE.out rfl))
    have HL_5 := Lib.hid (HL.out.grown hg hH0 (by have := HLT.out; omega))
    have HS_5 := Lib.hid (Nat.le_trans HS.out hg.size)
    clear hp hg
    obtain ⟨q', hq'⟩ : ∃ q', q = q' + 1 := ⟨q - 1, by have := HQ.out; omega⟩
    subst hq'
    by_cases hbn : x.1.kind = sg
    ·
      have HTK : Hid (takeS E sg s1 = (true, nextS s1)) := Lib.hid (by unfold takeS; rw [HX1.out, if_pos hbn])
      have HN2 : Hid (restS E sg m q' (Ls ++ [(m (nextS s1)).1]) (m (nextS s1)).2 = NR) := Lib.hid (by
        rw [← HN1.out]
        show _ = (if (peekS E s1).1.kind = sg then _ else _)
        rw [HX1.out, if_pos hbn])
      have hne0 := peek_some HX1.out (by omega)
      have hl1 : s1.ws.length = (nextS s1).ws.length + 1 := by rw [hne0]; simp
      have hgd := HGD.out (nextS s1) (by have := HQ.out; omega)
      have HGS : Hid ((m (nextS s1)).2.ws <:+ s1.ws ∧ (m (nextS s1)).2.op = s1.op ∧ (m (nextS s1)).2.ws.length < s1.ws.length) := Lib.hid ⟨hgd.1.trans (next_ws s1), hgd.2, by have := hgd.1.length_le; omega⟩
      have HP_5 : Hid (PAt w5 g E D (nextS s1)) := by have := HP_5; rw [HTK.out] at this; exact this
      have HM1 := Lib.hid (HM.out (nextS s1) w5 HP_5.out (below_W HWW.out HG_5.out hH0 HLT.out) (HO.out.suffix (next_ws s1)) (by have := HQ.out; omega) HQ.out.2.2.1 (by have := HQ.out; rw [next_op]; omega))
      rw [HTK.out]
      clear hgd hbn hne0 hl1
      go_wp2_with fail
      refine HM1.out.mono ?_
      rintro e w6 ⟨p, rfl, hi, hp, hg⟩
      have honep := Tr.one p
      have HP_6 := Lib.hid hp
      have HG_6 := Lib.hid (grownBy_trans HG_5.out hg)
      have HZ_6 := Lib.hid (At.grown' HZ_5.out hg (fun q => by cases q; exact HNE.out rfl))
      have HL_6 := Lib.hid (HL_5.out.grown hg hH0 (by have := HLT.out; omega))
      have HT_6 := Lib.hid hi
      have HS_6 : Hid (w.heap.size + 1 ≤ w5.heap.size ∧ w5.heap.size ≤ w6.heap.size) := Lib.hid ⟨HS_5.out, hg.size⟩
      generalize m (nextS s1) = ms at HN2 HGS HP_6 HT_6
      obtain ⟨T, s2⟩ := ms
      clear hi hp hg
      obtain ⟨w7, hw7⟩ : ∃ w7, w7 = w6.alloc (.cells p.cs.toArray 34) := ⟨_, rfl⟩
      have hb7 : Below w6.heap.size w6 w7 := by rw [hw7]; exact (Below.refl _ _).alloc (Nat.le_refl _) _
      have HW7 := Lib.hid hw7
      have HAt7 : Hid (At w7 w6.heap.size 34 p.cs.toArray) := Lib.hid (by rw [hw7]; exact At.new _ _ _)
      have HP_7 := Lib.hid (HP_6.out.next hb7)
      have HG_7 := Lib.hid (grownBy_below HG_6.out hb7)
      have HZ_7 := Lib.hid (At.below HZ_6.out hb7 HZ_6.out.lt)
      have HL7 := Lib.hid (HL_6.out.next hb7)
      have HT_7 := Lib.hid (HT_6.out.next hb7)
      have HS7 : Hid (w.heap.size + 1 ≤ w7.heap.size) := Lib.hid (by have := hb7.size; have := HS_6.out; omega)
      have hLle : L.length ≤ 20001 := by have := HQ.out; omega
      clear hb7 hw7
      go_wp2_with (first
        | (with_reducible show wpList _ _ _ ({ dst := _, op := .buildSlice _ _ _, type := _, pos := _, after := _, guard := _ } :: _) _ _
           refine wpList_slice_tr rfl _ p rfl rfl ?_
           rw [← HW7.out])
        | (at_builtin
           refine wpList_append_lies _ rfl _ _ _ rfl (w.heap.size + 1) 34 i0 _ 9 88 Try.underlying32 hi0 hz0 hz1 hz2 rfl (by omega) _ L.length _ rfl HL7.out.own ⟨w6.heap.size, 0, none⟩ 1 1 p.cs rfl rfl ?c1 ?c2 ?c6 ?c3 ?c4 ?c5 _ rfl ?_
           case c1 => exact fun i u hu => by rw [Addr.add_mid, Nat.zero_add]; exact (HAt7.out.cell i).trans (by simpa using hu)
           case c2 => exact fun u hu => by have := honep; rw [Array.all_eq_true_iff_forall_mem] at this; exact this u (by simpa using hu)
           case c6 => omega
           case c3 => unfold maxLen; omega
           case c4 => omega
           case c5 => exact HS7.out
           intro gb cap w8 hown8 hg8 hat8 hlt8)
        | fail)
      have hlow : ∀ b, (Value.slice A L.length c).ownBlock = some b → w.heap.size + 1 ≤ b := fun b e => (HL7.out.low b e).1
      have hb8 := own_below hg8 hlow HS7.out
      have hpu := PartsIn.push HL7.out HT_7.out (by have := HS_6.out; omega) (fun b e => by have := (HL_5.out.low b e).2; exact this) (Nat.le_trans hH0 (by have := HLT.out; omega)) hown8 hg8 hat8 (Nat.le_refl _)
      have hP8 := HP_7.out.keep hb8 (by have := HLT.out; omega)
      refine ⟨⟨q', s2, L ++ [p], Ls ++ [T], HN2, Lib.hid ?_, Lib.hid (HO.out.suffix HGS.out.1), hP8, Lib.hid (grownBy_from HG_7.out hb8 (by omega)), Lib.hid (At.below HZ_7.out hb8 (by omega)), hpu, Lib.hid (Nat.le_trans HS7.out hg8.size)⟩, ?_⟩
      · have h1 := HQ.out
        have h2 := HGS.out
        have h2' : s2.op = s1.op := h2.2.1
        have h2'' : s2.ws.length < s1.ws.length := h2.2.2
        refine ⟨by omega, by omega, by omega, by omega, ?_, by simp⟩
        rw [List.length_append, List.length_singleton]; omega
      · rw [PAt.len hP8, HLN.out]; exact HGS.out.2.2
    ·
      have HTK : Hid (takeS E sg s1 = (false, s1)) := Lib.hid (by unfold takeS; rw [HX1.out, if_neg hbn])
      have HNN : Hid (NR = (Ls, s1)) := Lib.hid (by
        rw [← HN1.out]
        show (if (peekS E s1).1.kind = sg then _ else _) = _
        rw [HX1.out, if_neg hbn])
      have HRR : Hid (R = (joinS kd Ls, s1)) := Lib.hid (by rw [HR.out, HNN.out])
      have HP_5 : Hid (PAt w5 g E D s1) := by have := HP_5; rw [HTK.out] at this; exact this
      rw [HTK.out]
      have HPO : Hid (0 < L.length) := Lib.hid HQ.out.2.2.2.2.2
      have HLL2 : Hid (L.length ≤ 20001) := Lib.hid (by have := HQ.out; omega)
      clear hbn
      · go_wp2_with fail
        refine (pJoin W0.heap.size (w.heap.size + 1) kd L.length c A L Ls w5 HL_5.out rfl (by have := HLL2.out; omega) hkd HS_5.out HPO.out (Nat.le_trans hH0 (by have := HLT.out; omega))).mono ?_
        rintro e w6 ⟨t, rfl, hi, hb⟩
        have HP_6 := Lib.hid (HP_5.out.next hb)
        have HG_6 := Lib.hid (grownBy_below HG_5.out hb)
        have HZ_6 := Lib.hid (At.below HZ_5.out hb HZ_5.out.lt)
        have HT_6 := Lib.hid hi
        have hone := Tr.one t
        clear hi hb
        go_wp2_with (first
          | (with_reducible show wpList _ _ _ ({ dst := none, op := .store _ _ _, type := _, pos := _, after := _, guard := _ } :: _) _ _
             refine wpList_store_row rfl 34 _ _ rfl w.heap.size t.cs.toArray rfl rfl 34 Tr.blank.cs.toArray HZ_6.out (by kernel_rfl) rfl hone ?_)
          | fail)
        have ho : Only w.heap.size w6 (w6.setRow w.heap.size t.cs.toArray) := Only.row _ _ _
        exact bodyPost_ret (results_cell_row Try.results53 _ _ w.heap.size 34 t.cs.toArray (0, 0) _ rfl (HZ_6.out.row _) Try.underlying34 rfl (by kernel_rfl)) rfl ⟨_, rfl, by rw [HRR.out]; exact (HT_6.out.grown ho.grownBy (Nat.le_trans hH0 (Nat.le_of_lt HLT.out)) (Nat.lt_succ_self _)).lower (Nat.le_succ _), by rw [HRR.out]; exact HP_6.out.keep (ho.below (Nat.le_refl _)) HLT.out, grownBy_from HG_6.out (ho.below (Nat.le_refl _)) (Nat.le_refl _)⟩

set_option maxRecDepth 100000 in
set_option maxHeartbeats 8000000 in
theorem pAnd (W0 : World) (g E : Nat) (D : Value) (n f : Nat) (m : PSt → Tr × PSt) (hE : E ≤ 20000) (hH0 : W0.heap.size ≤ g) (hm : PCalls 68 W0 g E D n m) (hgood : PGood n m) (hf : n ≤ f) :
    PCalls 54 W0 g E D n (betweenS E 5 5 m f) := by
  intro s w h hW hok hn ho1 ho2
  have HM := Lib.hid (pBetweenAnd W0 g E D 5 5 (by omega) n f m hE hH0 hm hgood hf (by omega))
  have HWW := Lib.hid hW
  have HOK := Lib.hid hok
  have HOP : Hid (0 ≤ s.op ∧ s.op + s.ws.length ≤ 20000 ∧ s.ws.length < n) := Lib.hid ⟨ho1, ho2, hn⟩
  obtain ⟨R, hR⟩ : ∃ R, betweenS E 5 5 m f s = R := ⟨_, rfl⟩
  have HR := Lib.hid hR
  rw [hR]
  clear hm hgood hf hW hok hn ho1 ho2 hR
  obtain ⟨w1, hw1⟩ : ∃ w1, w1 = w.alloc (.cells #[.int .i64 0, .int .u64 0, .int .u64 0, .int .u64 0, .int .u64 0, .slice none 0 0, .int .i64 0, .int .i64 0, .bool false] 34) := ⟨_, rfl⟩
  have hb1 : Below w.heap.size w w1 := by rw [hw1]; exact (Below.refl _ _).alloc (Nat.le_refl _) _
  have hz1 : At w1 w.heap.size 34 Tr.blank.cs.toArray := by rw [hw1]; exact At.new w 34 Tr.blank.cs.toArray
  have hsz1 : w1.heap.size = w.heap.size + 1 := by rw [hw1]; simp
  have HLT := Lib.hid h.lt
  have HNE : Hid (w.heap.size ≠ g) := Lib.hid (by have := HLT.out; omega)
  have HSZ := Lib.hid hsz1
  have HP_0 := Lib.hid (h.next hb1)
  have HZ_0 := Lib.hid hz1
  have HG_0 := Lib.hid (grownBy_below (grownBy_refl w (some g)) hb1)
  have HW1 := Lib.hid hw1
  clear hb1 hz1 hw1 h hsz1
  go_enter Try.func54, Try.ntmps54
  go_wp2_with fail
  rw [← HW1.out]
  refine (HM.out s _ HP_0.out (below_W HWW.out HG_0.out hH0 HLT.out) HOK.out HOP.out.2.2 HOP.out.1 HOP.out.2.1).mono ?_
  rintro e w2 ⟨t, rfl, hi, hp, hg⟩
  have HLHT := Lib.hid HP_0.out.lt
  have HMHT := Lib.hid HZ_0.out.lt
  have HQHT := Lib.hid hg.size
  have HP_1 := Lib.hid (hp)
  have HG_1 := Lib.hid (grownBy_trans HG_0.out hg)
  have HZ_1 := Lib.hid (At.grown' HZ_0.out hg (fun q => by cases q; exact HNE.out rfl))
  have HT_1 := Lib.hid (hi)
  clear hp hg hi
  have HP_1 : Hid (PAt w2 g E D R.2) := by rw [← HR.out]; exact HP_1
  have HT_1 : Hid (Tr.Is w2 W0.heap.size w1.heap.size t R.1) := by rw [← HR.out]; exact HT_1
  have hone := Tr.one t
  go_wp2_with (first
    | (with_reducible show wpList _ _ _ ({ dst := none, op := .store _ _ _, type := _, pos := _, after := _, guard := _ } :: _) _ _
       refine wpList_store_row rfl 34 _ _ rfl w.heap.size t.cs.toArray rfl rfl 34 Tr.blank.cs.toArray HZ_1.out (by kernel_rfl) rfl hone ?_)
    | fail)
  have ho : Only w.heap.size w2 (w2.setRow w.heap.size t.cs.toArray) := Only.row _ _ _
  exact bodyPost_ret (results_cell_row Try.results54 _ _ w.heap.size 34 t.cs.toArray (0, 0) _ rfl (HZ_1.out.row _) Try.underlying34 rfl (by kernel_rfl)) rfl ⟨t, rfl, (HT_1.out.grown ho.grownBy (Nat.le_trans hH0 (Nat.le_of_lt HLT.out)) HMHT.out).lower (Nat.le_of_lt HMHT.out), HP_1.out.keep (ho.below (Nat.le_refl _)) HLT.out, grownBy_from HG_1.out (ho.below (Nat.le_refl _)) (Nat.le_refl _)⟩

set_option maxRecDepth 100000 in
set_option maxHeartbeats 8000000 in
theorem pOr (W0 : World) (g E : Nat) (D : Value) (n f : Nat) (m : PSt → Tr × PSt) (hE : E ≤ 20000) (hH0 : W0.heap.size ≤ g) (hm : PCalls 54 W0 g E D n m) (hgood : PGood n m) (hf : n ≤ f) :
    PCalls 36 W0 g E D n (betweenS E 4 4 m f) := by
  intro s w h hW hok hn ho1 ho2
  have HM := Lib.hid (pBetweenOr W0 g E D 4 4 (by omega) n f m hE hH0 hm hgood hf (by omega))
  have HWW := Lib.hid hW
  have HOK := Lib.hid hok
  have HOP : Hid (0 ≤ s.op ∧ s.op + s.ws.length ≤ 20000 ∧ s.ws.length < n) := Lib.hid ⟨ho1, ho2, hn⟩
  obtain ⟨R, hR⟩ : ∃ R, betweenS E 4 4 m f s = R := ⟨_, rfl⟩
  have HR := Lib.hid hR
  rw [hR]
  clear hm hgood hf hW hok hn ho1 ho2 hR
  obtain ⟨w1, hw1⟩ : ∃ w1, w1 = w.alloc (.cells #[.int .i64 0, .int .u64 0, .int .u64 0, .int .u64 0, .int .u64 0, .slice none 0 0, .int .i64 0, .int .i64 0, .bool false] 34) := ⟨_, rfl⟩
  have hb1 : Below w.heap.size w w1 := by rw [hw1]; exact (Below.refl _ _).alloc (Nat.le_refl _) _
  have hz1 : At w1 w.heap.size 34 Tr.blank.cs.toArray := by rw [hw1]; exact At.new w 34 Tr.blank.cs.toArray
  have hsz1 : w1.heap.size = w.heap.size + 1 := by rw [hw1]; simp
  have HLT := Lib.hid h.lt
  have HNE : Hid (w.heap.size ≠ g) := Lib.hid (by have := HLT.out; omega)
  have HSZ := Lib.hid hsz1
  have HP_0 := Lib.hid (h.next hb1)
  have HZ_0 := Lib.hid hz1
  have HG_0 := Lib.hid (grownBy_below (grownBy_refl w (some g)) hb1)
  have HW1 := Lib.hid hw1
  clear hb1 hz1 hw1 h hsz1
  go_enter Try.func36, Try.ntmps36
  go_wp2_with fail
  rw [← HW1.out]
  refine (HM.out s _ HP_0.out (below_W HWW.out HG_0.out hH0 HLT.out) HOK.out HOP.out.2.2 HOP.out.1 HOP.out.2.1).mono ?_
  rintro e w2 ⟨t, rfl, hi, hp, hg⟩
  have HLHT := Lib.hid HP_0.out.lt
  have HMHT := Lib.hid HZ_0.out.lt
  have HQHT := Lib.hid hg.size
  have HP_1 := Lib.hid (hp)
  have HG_1 := Lib.hid (grownBy_trans HG_0.out hg)
  have HZ_1 := Lib.hid (At.grown' HZ_0.out hg (fun q => by cases q; exact HNE.out rfl))
  have HT_1 := Lib.hid (hi)
  clear hp hg hi
  have HP_1 : Hid (PAt w2 g E D R.2) := by rw [← HR.out]; exact HP_1
  have HT_1 : Hid (Tr.Is w2 W0.heap.size w1.heap.size t R.1) := by rw [← HR.out]; exact HT_1
  have hone := Tr.one t
  go_wp2_with (first
    | (with_reducible show wpList _ _ _ ({ dst := none, op := .store _ _ _, type := _, pos := _, after := _, guard := _ } :: _) _ _
       refine wpList_store_row rfl 34 _ _ rfl w.heap.size t.cs.toArray rfl rfl 34 Tr.blank.cs.toArray HZ_1.out (by kernel_rfl) rfl hone ?_)
    | fail)
  have ho : Only w.heap.size w2 (w2.setRow w.heap.size t.cs.toArray) := Only.row _ _ _
  exact bodyPost_ret (results_cell_row Try.results36 _ _ w.heap.size 34 t.cs.toArray (0, 0) _ rfl (HZ_1.out.row _) Try.underlying34 rfl (by kernel_rfl)) rfl ⟨t, rfl, (HT_1.out.grown ho.grownBy (Nat.le_trans hH0 (Nat.le_of_lt HLT.out)) HMHT.out).lower (Nat.le_of_lt HMHT.out), HP_1.out.keep (ho.below (Nat.le_refl _)) HLT.out, grownBy_from HG_1.out (ho.below (Nat.le_refl _)) (Nat.le_refl _)⟩


end Go.Proofs.Ytkbfoelffeocmaa
