/- The parser: what stands in brackets. -/
import Derived.Test.YtkbfoelffeocmaaParseB
namespace Go.Proofs.Ytkbfoelffeocmaa
open Go.RowKit
set_option linter.unusedSimpArgs false
set_option linter.unusedVariables false

/-- What reads a pattern: the tree that R tells, the state that R tells. -/
def PRes (W0 : World) (g E : Nat) (D : Value) (w : World) (R : Tr × PSt) (e : Ending) (w' : World) : Prop :=
  ∃ t, e = .returned (.agg t.cs.toArray) ∧ Tr.Is w' W0.heap.size w.heap.size t R.1 ∧ PAt w' g E D R.2 ∧ w.grownBy w' (some g)
/-- A function of the parser reads as S says, while less than n words are left. -/
def WsOk (ws : List (Wd × Nat)) : Prop := ∀ y ∈ ws, y.1.set.Ok ∧ I64 y.1.lo ∧ I64 y.1.hi
theorem WsOk.suffix {a b : List (Wd × Nat)} (h : WsOk b) (hs : a <:+ b) : WsOk a := fun y hy => h y (hs.subset hy)
def PCalls (F : Nat) (W0 : World) (g E : Nat) (D : Value) (n : Nat) (S : PSt → Tr × PSt) : Prop :=
  ∀ (s : PSt) (w : World), PAt w g E D s → Below W0.heap.size W0 w → WsOk s.ws → s.ws.length < n → 0 ≤ s.op → s.op + s.ws.length ≤ 20000 → Calls Try.prog F #[.pointer (some ⟨g, 0, none⟩)] w (PRes W0 g E D w (S s))
/-- What S does to a state's words, and what is open. -/
def PGood (n : Nat) (S : PSt → Tr × PSt) : Prop := ∀ s, s.ws.length < n → (S s).2.ws <:+ s.ws ∧ (S s).2.op = s.op
theorem below_W {W0 w w' : World} {g : Nat} (h : Below W0.heap.size W0 w) (hg : w.grownBy w' (some g)) (h0 : W0.heap.size ≤ g) (hl : g < w.heap.size) : Below W0.heap.size W0 w' := h.trans ((grownBy_lo hg (Nat.le_of_lt hl)).mono h0)
theorem fail_ws (p e : Int) (s : PSt) : (failS p e s).ws <:+ s.ws := by unfold failS; split; exact List.nil_suffix; exact List.suffix_refl _
theorem fail_op (p e : Int) (s : PSt) : (failS p e s).op = s.op := by unfold failS; split <;> rfl
theorem enter_ws (p : Int) (s : PSt) : (enterS p s).ws <:+ s.ws := by unfold enterS; split; exact fail_ws _ _ _; exact List.suffix_refl _
theorem enter_op (p : Int) (s : PSt) : (enterS p s).op = s.op + 1 := by unfold enterS; split; exact fail_op _ _ _; rfl
theorem next_ws (s : PSt) : (nextS s).ws <:+ s.ws := List.tail_suffix _
theorem next_op (s : PSt) : (nextS s).op = s.op := rfl
theorem peek_some {E : Nat} {s : PSt} {x : Wd × Nat} (h : peekS E s = x) (hk : x.1.kind ≠ 0) : s.ws = x :: (nextS s).ws := by
  unfold peekS at h
  unfold nextS
  cases hs : s.ws with
  | nil => rw [hs] at h; subst h; exact absurd rfl hk
  | cons y r => rw [hs] at h; subst h; rfl
/-- A node over one tree, in a list of its own. -/
theorem one_node {w : World} {H0 hi : Nat} {t T : Tr} {kd lo hi' : Int} {neg : Bool} (h : Tr.Is w H0 hi t T) (hh : hi ≤ w.heap.size) (hkd : I64 kd) (hlo : I64 lo) (hhi : I64 hi') :
    Tr.Is (w.alloc (.cells t.cs.toArray 34)) H0 hi (.node kd ⟨0, 0, 0, 0⟩ (some ⟨w.heap.size, 0, none⟩) 1 1 [t] lo hi' neg) (nodeT kd [T] lo hi' neg) := by
  have h' := h.next (w' := w.alloc (.cells t.cs.toArray 34)) ((Below.refl _ _).alloc (Nat.le_refl _) _)
  obtain ⟨k, i1, i2, i3⟩ := h'
  have hA := At.new w 34 t.cs.toArray
  refine ⟨k + 1, ⟨⟨⟨zero_ok, hkd, hlo, hhi⟩, ⟨rfl, by show 1 ≤ _; decide⟩, fun h0 => ⟨w.heap.size, 0, rfl, hA.lt, fun j hj => ?_⟩, fun j hj => ?_⟩, ⟨fun h0 b off e => ?_, fun p hp => ?_⟩⟩, ⟨fun h0 b off e => ?_, fun p hp => ?_⟩, fun k' hk' => ?_⟩
  · have hj' : j < 1 := hj
    obtain rfl : j = 0 := by omega
    intro i u hu
    show World.cell? _ ⟨w.heap.size, 0 + 0 * 9 + i, none⟩ = some u
    rw [show 0 + 0 * 9 + i = i by omega, hA.cell]
    rw [List.getElem?_toArray]; exact hu
  · have hj' : j < 1 := hj
    obtain rfl : j = 0 := by omega
    exact i1.1
  · have e0 : some (⟨w.heap.size, 0, none⟩ : Addr) = some ⟨b, off, none⟩ := e
    injection e0 with e0
    injection e0 with e0 e1
    subst e0; subst e1
    exact hA.free 0
  · have hp' : p ∈ [t] := hp
    have : p = t := by simpa using hp'
    rw [this]; exact i1.2
  · have e0 : some (⟨w.heap.size, 0, none⟩ : Addr) = some ⟨b, off, none⟩ := e
    injection e0 with e0
    injection e0 with e0
    omega
  · have hp' : p ∈ [t] := hp
    have : p = t := by simpa using hp'
    rw [this]; exact i2
  · obtain ⟨d, rfl⟩ : ∃ d, k' = d + 1 := ⟨k' - 1, by omega⟩
    show Tr.node kd ⟨0, 0, 0, 0⟩ none 1 0 [t.strip d] lo hi' neg = _
    rw [i3 d (by omega)]; rfl

set_option maxRecDepth 100000 in
set_option maxHeartbeats 4000000 in
theorem pBracket (W0 : World) (g E : Nat) (D : Value) (n f : Nat) (m : PSt → Tr × PSt) (hE : E ≤ 20000) (hH0 : W0.heap.size ≤ g) (hor : PCalls 36 W0 g E D n (orS E m f)) (hgood : PGood n (orS E m f))
    (p : Nat) (s : PSt) (w : World) (h : PAt w g E D s) (hW : Below W0.heap.size W0 w) (hok : WsOk s.ws) (hn : s.ws.length < n) (ho1 : 0 ≤ s.op) (ho2 : s.op + s.ws.length + 1 ≤ 20000) :
    Calls Try.prog 89 #[.pointer (some ⟨g, 0, none⟩), .int .i64 p] w (PRes W0 g E D w (bracketS E m f p s)) := by
  have HOR := Lib.hid hor
  have HWW := Lib.hid hW
  have HOP : Hid (0 ≤ s.op ∧ s.op + s.ws.length + 1 ≤ 20000 ∧ s.ws.length < n) := Lib.hid ⟨ho1, ho2, hn⟩
  have e1 := enter_ws p s
  have e2 := enter_op p s
  have e4 := e1.length_le
  have e3 := hgood (enterS p s) (by omega)
  have e5 := e3.1.length_le
  have HOK := Lib.hid (hok.suffix e1)
  have HEN : Hid ((enterS p s).ws.length ≤ s.ws.length ∧ (enterS p s).op = s.op + 1 ∧ (orS E m f (enterS p s)).2.op = s.op + 1) := Lib.hid ⟨e4, e2, by rw [e3.2]; exact e2⟩
  obtain ⟨s2, hs2⟩ : ∃ s2, (orS E m f (enterS p s)).2 = s2 := ⟨_, rfl⟩
  obtain ⟨x, hx⟩ : ∃ x, peekS E (leaveS s2) = x := ⟨_, rfl⟩
  have HX := Lib.hid hx
  have HS2 := Lib.hid hs2
  have HR : Hid (bracketS E m f p s = ((orS E m f (enterS p s)).1, if x.1.kind = 3 then nextS (leaveS s2) else failS x.2 2 (nextS (leaveS s2)))) := Lib.hid (by unfold bracketS; dsimp only; rw [hs2, hx])
  clear hor hW hok hn ho1 ho2 hgood e1 e2 e3 e4 e5 hs2 hx
  obtain ⟨w1, hw1⟩ : ∃ w1, w1 = w.alloc (.cells #[.int .i64 0, .int .u64 0, .int .u64 0, .int .u64 0, .int .u64 0, .slice none 0 0, .int .i64 0, .int .i64 0, .bool false] 34) := ⟨_, rfl⟩
  have hb1 : Below w.heap.size w w1 := by rw [hw1]; exact (Below.refl _ _).alloc (Nat.le_refl _) _
  have hz1 : At w1 w.heap.size 34 Tr.blank.cs.toArray := by rw [hw1]; exact At.new w 34 Tr.blank.cs.toArray
  have hsz1 : w1.heap.size = w.heap.size + 1 := by rw [hw1]; simp
  have HLT := Lib.hid h.lt
  have HNE : Hid (w.heap.size ≠ g) := Lib.hid (by have := HLT.out; omega)
  have HSZ := Lib.hid hsz1
  have HP_0 := Lib.hid (h.next hb1)
  have HZ_0 := Lib.hid hz1
  have HG_0 := Lib.hid (grownBy_below (grownBy_refl w (some g)) hb1)
  have HW1 := Lib.hid hw1
  clear hb1 hz1 hw1 h hsz1
  go_enter Try.func89, Try.ntmps89
  go_wp2_with fail
  rw [← HW1.out]
  refine (pEnter g E D s p w1 HP_0.out (by have := HOP.out; omega) (by have := HOP.out; omega)).mono ?_
  rintro e w2 ⟨rfl, hp, hg⟩
  have HP_1 := Lib.hid (hp)
  have HG_1 := Lib.hid (grownBy_trans HG_0.out hg)
  have HZ_1 := Lib.hid (At.grown' HZ_0.out hg (fun q => by cases q; exact HNE.out rfl))
  clear hp hg
  go_wp2_with fail
  refine (HOR.out (enterS p s) w2 HP_1.out (below_W HWW.out HG_1.out hH0 HLT.out) HOK.out (by have := HEN.out; have := HOP.out; omega) (by have := HEN.out; have := HOP.out; omega) (by have := HEN.out; have := HOP.out; omega)).mono ?_
  rintro e w3 ⟨t, rfl, hi, hp, hg⟩
  have HLHT := Lib.hid HP_1.out.lt
  have HMHT := Lib.hid HZ_1.out.lt
  have HQHT := Lib.hid hg.size
  have HP_2 := Lib.hid (hp)
  have HG_2 := Lib.hid (grownBy_trans HG_1.out hg)
  have HZ_2 := Lib.hid (At.grown' HZ_1.out hg (fun q => by cases q; exact HNE.out rfl))
  have HT_2 := Lib.hid (hi)
  clear hp hg hi
  have HNHBt : Hid (w3.heap.size ≠ g) := Lib.hid (by have := HP_2.out.lt; omega)
  have hb := boxW_next w3 t
  have HP_3 := Lib.hid (HP_2.out.next hb)
  have HG_3 := Lib.hid (grownBy_below HG_2.out hb)
  have HZ_3 := Lib.hid (At.below HZ_2.out hb HZ_2.out.lt)
  have HT_3 := Lib.hid (HT_2.out.next hb)
  have HBt_3 := Lib.hid (boxW_at w3 t)
  have honeHBt := Tr.one t
  clear hb
  go_wp2_with (first
    | (with_reducible show wpList _ _ _ ({ dst := none, op := .store _ _ _, type := _, pos := _, after := _, guard := _ } :: _) _ _
       refine wpList_store_row rfl 34 _ _ rfl w3.heap.size t.cs.toArray rfl rfl 34 Tr.blank.cs.toArray (At.new _ _ _) (by kernel_rfl) rfl honeHBt ?_
       change Exit.then _ _ _ _ (boxW w3 t))
    | fail)
  refine (pLeave g E D _ _ HP_3.out (by have := HEN.out; have := HOP.out; omega) (by have := HEN.out; have := HOP.out; omega)).mono ?_
  rintro e w5 ⟨rfl, hp, hg⟩
  have HP_4 := Lib.hid (hp)
  have HG_4 := Lib.hid (grownBy_trans HG_3.out hg)
  have HZ_4 := Lib.hid (At.grown' HZ_3.out hg (fun q => by cases q; exact HNE.out rfl))
  have HBt_4 := Lib.hid (At.grown' HBt_3.out hg (fun q => by cases q; exact HNHBt.out rfl))
  have HT_4 := Lib.hid (HT_3.out.grown hg hH0 HLHT.out)
  clear hp hg
  rw [HS2.out] at HP_4
  go_wp2_with fail
  refine (pNext g E D _ _ HP_4.out hE).mono ?_
  rintro e w6 ⟨rfl, hp, hg⟩
  have HP_5 := Lib.hid (hp)
  have HG_5 := Lib.hid (grownBy_trans HG_4.out hg)
  have HZ_5 := Lib.hid (At.grown' HZ_4.out hg (fun q => by cases q; exact HNE.out rfl))
  have HBt_5 := Lib.hid (At.grown' HBt_4.out hg (fun q => by cases q; exact HNHBt.out rfl))
  have HT_5 := Lib.hid (HT_4.out.grown hg hH0 HLHT.out)
  clear hp hg
  rw [HX.out]
  have HNHBx : Hid (w6.heap.size ≠ g) := Lib.hid (by have := HP_5.out.lt; omega)
  have hb := boxWd_next w6 x.1 x.2
  have HP_6 := Lib.hid (HP_5.out.next hb)
  have HG_6 := Lib.hid (grownBy_below HG_5.out hb)
  have HZ_6 := Lib.hid (At.below HZ_5.out hb HZ_5.out.lt)
  have HBt_6 := Lib.hid (At.below HBt_5.out hb HBt_5.out.lt)
  have HT_6 := Lib.hid (HT_5.out.next hb)
  have HBx_6 := Lib.hid (boxWd_at w6 x.1 x.2)
  have honeHBx := Wd.one x.1 x.2
  clear hb
  by_cases h3 : x.1.kind = 3
  · have c0 := HBx_6.out.cell 0
    rw [show (wdCells x.1 x.2)[0]? = some (.int .i64 x.1.kind) from rfl, h3] at c0
    have HR2 : Hid (bracketS E m f p s = ((orS E m f (enterS p s)).1, nextS (leaveS s2))) := Lib.hid (by rw [HR.out, if_pos h3])
    clear h3
    go_wp2_with (first
      | (with_reducible show wpList _ _ _ ({ dst := none, op := .store _ _ _, type := _, pos := _, after := _, guard := _ } :: _) _ _
         refine wpList_store_row rfl 57 _ _ rfl w6.heap.size (wdCells x.1 x.2) rfl rfl 57 (wdCells wd0 0) (At.new _ _ _) (by kernel_rfl) rfl honeHBx ?_
         change Exit.then _ _ _ _ (boxWd w6 x.1 x.2))
      | (refine wpList_load_row rfl 34 _ rfl w3.heap.size rfl 34 t.cs.toArray (0, 0) _ HBt_6.out Try.underlying34 rfl (by kernel_rfl) ?_)
      | (with_reducible show wpList _ _ _ ({ dst := none, op := .store _ _ _, type := _, pos := _, after := _, guard := _ } :: _) _ _
         refine wpList_store_row rfl 34 _ _ rfl w.heap.size t.cs.toArray rfl rfl 34 Tr.blank.cs.toArray HZ_6.out (by kernel_rfl) rfl honeHBt ?_)
      | fail)
    have ho : Only w.heap.size (boxWd w6 x.1 x.2) ((boxWd w6 x.1 x.2).setRow w.heap.size t.cs.toArray) := Only.row _ _ _
    exact bodyPost_ret (results_cell_row Try.results89 _ _ w.heap.size 34 t.cs.toArray (0, 0) _ rfl (HZ_6.out.row _) Try.underlying34 rfl (by kernel_rfl)) rfl ⟨t, rfl, by rw [HR2.out]; exact ((HT_6.out.grown ho.grownBy (Nat.le_trans hH0 (Nat.le_of_lt HLT.out)) HMHT.out).lower (Nat.le_of_lt HMHT.out)), (by rw [HR2.out]; exact HP_6.out.keep (ho.below (Nat.le_refl _)) HLT.out), grownBy_from HG_6.out (ho.below (Nat.le_refl _)) (Nat.le_refl _)⟩
  · have c0 := HBx_6.out.cell 0
    have c1 := HBx_6.out.cell 1
    rw [show (wdCells x.1 x.2)[0]? = some (.int .i64 x.1.kind) from rfl] at c0
    rw [show (wdCells x.1 x.2)[1]? = some (.int .i64 x.2) from rfl] at c1
    have hne := (int_ne h3).2
    have HR2 : Hid (bracketS E m f p s = ((orS E m f (enterS p s)).1, failS x.2 2 (nextS (leaveS s2)))) := Lib.hid (by rw [HR.out, if_neg h3])
    clear h3
    go_wp2_with (first
      | (with_reducible show wpList _ _ _ ({ dst := none, op := .store _ _ _, type := _, pos := _, after := _, guard := _ } :: _) _ _
         refine wpList_store_row rfl 57 _ _ rfl w6.heap.size (wdCells x.1 x.2) rfl rfl 57 (wdCells wd0 0) (At.new _ _ _) (by kernel_rfl) rfl honeHBx ?_
         change Exit.then _ _ _ _ (boxWd w6 x.1 x.2))
      | fail)
    refine (pFail g E D _ x.2 2 _ HP_6.out).mono ?_
    rintro e w8 ⟨rfl, hp, hg⟩
    have HP_7 := Lib.hid (hp)
    have HG_7 := Lib.hid (grownBy_trans HG_6.out hg)
    have HZ_7 := Lib.hid (At.grown' HZ_6.out hg (fun q => by cases q; exact HNE.out rfl))
    have HBt_7 := Lib.hid (At.grown' HBt_6.out hg (fun q => by cases q; exact HNHBt.out rfl))
    have HBx_7 := Lib.hid (At.grown' HBx_6.out hg (fun q => by cases q; exact HNHBx.out rfl))
    have HT_7 := Lib.hid (HT_6.out.grown hg hH0 HLHT.out)
    clear hp hg
    go_wp2_with (first
      | (refine wpList_load_row rfl 34 _ rfl w3.heap.size rfl 34 t.cs.toArray (0, 0) _ HBt_7.out Try.underlying34 rfl (by kernel_rfl) ?_)
      | (with_reducible show wpList _ _ _ ({ dst := none, op := .store _ _ _, type := _, pos := _, after := _, guard := _ } :: _) _ _
         refine wpList_store_row rfl 34 _ _ rfl w.heap.size t.cs.toArray rfl rfl 34 Tr.blank.cs.toArray HZ_7.out (by kernel_rfl) rfl honeHBt ?_)
      | fail)
    have ho : Only w.heap.size w8 (w8.setRow w.heap.size t.cs.toArray) := Only.row _ _ _
    exact bodyPost_ret (results_cell_row Try.results89 _ _ w.heap.size 34 t.cs.toArray (0, 0) _ rfl (HZ_7.out.row _) Try.underlying34 rfl (by kernel_rfl)) rfl ⟨t, rfl, by rw [HR2.out]; exact ((HT_7.out.grown ho.grownBy (Nat.le_trans hH0 (Nat.le_of_lt HLT.out)) HMHT.out).lower (Nat.le_of_lt HMHT.out)), (by rw [HR2.out]; exact HP_7.out.keep (ho.below (Nat.le_refl _)) HLT.out), grownBy_from HG_7.out (ho.below (Nat.le_refl _)) (Nat.le_refl _)⟩

set_option maxRecDepth 100000 in
set_option maxHeartbeats 4000000 in
theorem pLook (W0 : World) (g E : Nat) (D : Value) (n f : Nat) (m : PSt → Tr × PSt) (hE : E ≤ 20000) (hH0 : W0.heap.size ≤ g) (hor : PCalls 36 W0 g E D n (orS E m f)) (hgood : PGood n (orS E m f))
    (x : Wd × Nat) (kd : Nat) (hkd : kd ≤ 20) (s : PSt) (w : World) (h : PAt w g E D s) (hW : Below W0.heap.size W0 w) (hok : WsOk s.ws) (hn : s.ws.length < n) (ho1 : 0 ≤ s.op) (ho2 : s.op + s.ws.length + 1 ≤ 20000) :
    Calls Try.prog 90 #[.pointer (some ⟨g, 0, none⟩), .agg (wdCells x.1 x.2), .int .i64 kd] w (PRes W0 g E D w (nodeT kd [(bracketS E m f x.2 s).1] 0 0 (decide (x.1.kind = 13 ∨ x.1.kind = 15)), (bracketS E m f x.2 s).2)) := by
  have HOR := Lib.hid hor
  have HGO := Lib.hid hgood
  have HWW := Lib.hid hW
  have HOK := Lib.hid hok
  have HOP : Hid (0 ≤ s.op ∧ s.op + s.ws.length + 1 ≤ 20000 ∧ s.ws.length < n) := Lib.hid ⟨ho1, ho2, hn⟩
  obtain ⟨R, hR⟩ : ∃ R, bracketS E m f x.2 s = R := ⟨_, rfl⟩
  have HR := Lib.hid hR
  clear hor hW hok hn ho1 ho2 hgood
  rw [hR]
  clear hR
  obtain ⟨w1, hw1⟩ : ∃ w1, w1 = (w.alloc (.cells (wdCells x.1 x.2) 57)).alloc (.cells #[.int .i64 0, .int .u64 0, .int .u64 0, .int .u64 0, .int .u64 0, .slice none 0 0, .int .i64 0, .int .i64 0, .bool false] 34) := ⟨_, rfl⟩
  have hb1 : Below w.heap.size w w1 := by rw [hw1]; exact below_two _ _
  have ha1 : At w1 w.heap.size 57 (wdCells x.1 x.2) := by rw [hw1]; exact (At.new _ _ _).alloc _
  have hz1 : At w1 (w.heap.size + 1) 34 Tr.blank.cs.toArray := by rw [hw1]; exact at_new' (w.alloc (.cells (wdCells x.1 x.2) 57)) (w.heap.size + 1) 34 (cs := Tr.blank.cs.toArray) (by simp)
  have hsz1 : w1.heap.size = w.heap.size + 2 := by rw [hw1]; simp
  have HLT := Lib.hid h.lt
  have HNE : Hid (w.heap.size + 1 ≠ g) := Lib.hid (by have := HLT.out; omega)
  have HNA : Hid (w.heap.size ≠ g) := Lib.hid (by have := HLT.out; omega)
  have HSZ := Lib.hid hsz1
  have HP_0 := Lib.hid (h.next hb1)
  have HZ_0 := Lib.hid hz1
  have HA_0 := Lib.hid ha1
  have HG_0 := Lib.hid (grownBy_below (grownBy_refl w (some g)) hb1)
  have HW1 := Lib.hid hw1
  clear hb1 hz1 ha1 h hsz1
  clear hw1
  have c0 := HA_0.out.cell 0
  have c1 := HA_0.out.cell 1
  rw [show (wdCells x.1 x.2)[0]? = some (.int .i64 x.1.kind) from rfl, HW1.out] at c0
  rw [show (wdCells x.1 x.2)[1]? = some (.int .i64 x.2) from rfl, HW1.out] at c1
  by_cases h13 : x.1.kind = 13
  · have hd : decide (x.1.kind = 13 ∨ x.1.kind = 15) = true := by simp [h13]
    rw [hd]
    clear hd
    rw [h13] at c0
    clear h13
    go_enter Try.func90, Try.ntmps90
    go_wp2_with fail
    rw [← HW1.out]
    clear c0 c1
    refine (pBracket W0 g E D n f m hE hH0 HOR.out HGO.out x.2 s _ HP_0.out (below_W HWW.out HG_0.out hH0 HLT.out) HOK.out HOP.out.2.2 HOP.out.1 HOP.out.2.1).mono ?_
    rintro e w2 ⟨t, rfl, hi, hp, hg⟩
    have HLHT := Lib.hid HP_0.out.lt
    have HMHT := Lib.hid HZ_0.out.lt
    have HQHT := Lib.hid hg.size
    have HP_1 := Lib.hid (hp)
    have HG_1 := Lib.hid (grownBy_trans HG_0.out hg)
    have HZ_1 := Lib.hid (At.grown' HZ_0.out hg (fun q => by cases q; exact HNE.out rfl))
    have HA_1 := Lib.hid (At.grown' HA_0.out hg (fun q => by cases q; exact HNA.out rfl))
    have HT_1 := Lib.hid (hi)
    clear hp hg hi
    rw [HR.out] at HP_1 HT_1
    have hnode := one_node (kd := kd) (lo := 0) (hi' := 0) (neg := true) HT_1.out HQHT.out (by unfold I64; omega) I64_zero I64_zero
    have HNO := Lib.hid hnode
    clear hnode
    obtain ⟨w3, hw⟩ : ∃ w9, w9 = w2.alloc (.cells t.cs.toArray 34) := ⟨_, rfl⟩
    have hb : Below w2.heap.size w2 w3 := by rw [hw]; exact (Below.refl _ _).alloc (Nat.le_refl _) _
    have HWS := Lib.hid hw
    have HP_2 := Lib.hid (HP_1.out.next hb)
    have HG_2 := Lib.hid (grownBy_below HG_1.out hb)
    have HZ_2 := Lib.hid (At.below HZ_1.out hb HZ_1.out.lt)
    have HA_2 := Lib.hid (At.below HA_1.out hb HA_1.out.lt)
    have HT_2 := Lib.hid (HT_1.out.next hb)
    clear hb hw
    rw [← HWS.out] at HNO
    have hone := Tr.one (Tr.node kd ⟨0, 0, 0, 0⟩ (some ⟨w2.heap.size, 0, none⟩) 1 1 [t] 0 0 true)
    go_wp2_with (first
      | (with_reducible show wpList _ _ _ ({ dst := _, op := .buildSlice _ _ _, type := _, pos := _, after := _, guard := _ } :: _) _ _
         refine wpList_slice_tr rfl _ t rfl rfl ?_
         rw [← HWS.out])
      | (with_reducible show wpList _ _ _ ({ dst := none, op := .store _ _ _, type := _, pos := _, after := _, guard := _ } :: _) _ _
         refine wpList_store_row rfl 34 _ _ rfl (w.heap.size + 1) (Tr.node kd ⟨0, 0, 0, 0⟩ (some ⟨w2.heap.size, 0, none⟩) 1 1 [t] 0 0 true).cs.toArray rfl rfl 34 Tr.blank.cs.toArray HZ_2.out (by kernel_rfl) rfl hone ?_)
      | fail)
    have ho : Only (w.heap.size + 1) w3 (w3.setRow (w.heap.size + 1) (Tr.node kd ⟨0, 0, 0, 0⟩ (some ⟨w2.heap.size, 0, none⟩) 1 1 [t] 0 0 true).cs.toArray) := Only.row _ _ _
    exact bodyPost_ret (results_cell_row Try.results90 _ _ (w.heap.size + 1) 34 (Tr.node kd ⟨0, 0, 0, 0⟩ (some ⟨w2.heap.size, 0, none⟩) 1 1 [t] 0 0 true).cs.toArray (0, 0) _ rfl (HZ_2.out.row _) Try.underlying34 rfl (by kernel_rfl)) rfl ⟨(Tr.node kd ⟨0, 0, 0, 0⟩ (some ⟨w2.heap.size, 0, none⟩) 1 1 [t] 0 0 true), rfl, (HNO.out.grown ho.grownBy (Nat.le_trans hH0 (by have := HLT.out; omega)) (by have := HMHT.out; omega)).lower (by have := HMHT.out; omega), HP_2.out.keep (ho.below (Nat.le_succ _)) HLT.out, grownBy_from HG_2.out (ho.below (Nat.le_succ _)) (Nat.le_refl _)⟩
  by_cases h15 : x.1.kind = 15
  · have hd : decide (x.1.kind = 13 ∨ x.1.kind = 15) = true := by simp [h15]
    rw [hd]
    clear hd
    rw [h15] at c0
    clear h15 h13
    go_enter Try.func90, Try.ntmps90
    go_wp2_with fail
    rw [← HW1.out]
    clear c0 c1
    refine (pBracket W0 g E D n f m hE hH0 HOR.out HGO.out x.2 s _ HP_0.out (below_W HWW.out HG_0.out hH0 HLT.out) HOK.out HOP.out.2.2 HOP.out.1 HOP.out.2.1).mono ?_
    rintro e w2 ⟨t, rfl, hi, hp, hg⟩
    have HLHT := Lib.hid HP_0.out.lt
    have HMHT := Lib.hid HZ_0.out.lt
    have HQHT := Lib.hid hg.size
    have HP_1 := Lib.hid (hp)
    have HG_1 := Lib.hid (grownBy_trans HG_0.out hg)
    have HZ_1 := Lib.hid (At.grown' HZ_0.out hg (fun q => by cases q; exact HNE.out rfl))
    have HA_1 := Lib.hid (At.grown' HA_0.out hg (fun q => by cases q; exact HNA.out rfl))
    have HT_1 := Lib.hid (hi)
    clear hp hg hi
    rw [HR.out] at HP_1 HT_1
    have hnode := one_node (kd := kd) (lo := 0) (hi' := 0) (neg := true) HT_1.out HQHT.out (by unfold I64; omega) I64_zero I64_zero
    have HNO := Lib.hid hnode
    clear hnode
    obtain ⟨w3, hw⟩ : ∃ w9, w9 = w2.alloc (.cells t.cs.toArray 34) := ⟨_, rfl⟩
    have hb : Below w2.heap.size w2 w3 := by rw [hw]; exact (Below.refl _ _).alloc (Nat.le_refl _) _
    have HWS := Lib.hid hw
    have HP_2 := Lib.hid (HP_1.out.next hb)
    have HG_2 := Lib.hid (grownBy_below HG_1.out hb)
    have HZ_2 := Lib.hid (At.below HZ_1.out hb HZ_1.out.lt)
    have HA_2 := Lib.hid (At.below HA_1.out hb HA_1.out.lt)
    have HT_2 := Lib.hid (HT_1.out.next hb)
    clear hb hw
    rw [← HWS.out] at HNO
    have hone := Tr.one (Tr.node kd ⟨0, 0, 0, 0⟩ (some ⟨w2.heap.size, 0, none⟩) 1 1 [t] 0 0 true)
    go_wp2_with (first
      | (with_reducible show wpList _ _ _ ({ dst := _, op := .buildSlice _ _ _, type := _, pos := _, after := _, guard := _ } :: _) _ _
         refine wpList_slice_tr rfl _ t rfl rfl ?_
         rw [← HWS.out])
      | (with_reducible show wpList _ _ _ ({ dst := none, op := .store _ _ _, type := _, pos := _, after := _, guard := _ } :: _) _ _
         refine wpList_store_row rfl 34 _ _ rfl (w.heap.size + 1) (Tr.node kd ⟨0, 0, 0, 0⟩ (some ⟨w2.heap.size, 0, none⟩) 1 1 [t] 0 0 true).cs.toArray rfl rfl 34 Tr.blank.cs.toArray HZ_2.out (by kernel_rfl) rfl hone ?_)
      | fail)
    have ho : Only (w.heap.size + 1) w3 (w3.setRow (w.heap.size + 1) (Tr.node kd ⟨0, 0, 0, 0⟩ (some ⟨w2.heap.size, 0, none⟩) 1 1 [t] 0 0 true).cs.toArray) := Only.row _ _ _
    exact bodyPost_ret (results_cell_row Try.results90 _ _ (w.heap.size + 1) 34 (Tr.node kd ⟨0, 0, 0, 0⟩ (some ⟨w2.heap.size, 0, none⟩) 1 1 [t] 0 0 true).cs.toArray (0, 0) _ rfl (HZ_2.out.row _) Try.underlying34 rfl (by kernel_rfl)) rfl ⟨(Tr.node kd ⟨0, 0, 0, 0⟩ (some ⟨w2.heap.size, 0, none⟩) 1 1 [t] 0 0 true), rfl, (HNO.out.grown ho.grownBy (Nat.le_trans hH0 (by have := HLT.out; omega)) (by have := HMHT.out; omega)).lower (by have := HMHT.out; omega), HP_2.out.keep (ho.below (Nat.le_succ _)) HLT.out, grownBy_from HG_2.out (ho.below (Nat.le_succ _)) (Nat.le_refl _)⟩
  have hd : decide (x.1.kind = 13 ∨ x.1.kind = 15) = false := by simp [h13, h15]
  rw [hd]
  clear hd
  have k13 := (int_ne h13).1
  have k15 := (int_ne h15).1
  clear h13 h15
  go_enter Try.func90, Try.ntmps90
  go_wp2_with fail
  rw [← HW1.out]
  clear c0 c1
  refine (pBracket W0 g E D n f m hE hH0 HOR.out HGO.out x.2 s _ HP_0.out (below_W HWW.out HG_0.out hH0 HLT.out) HOK.out HOP.out.2.2 HOP.out.1 HOP.out.2.1).mono ?_
  rintro e w2 ⟨t, rfl, hi, hp, hg⟩
  have HLHT := Lib.hid HP_0.out.lt
  have HMHT := Lib.hid HZ_0.out.lt
  have HQHT := Lib.hid hg.size
  have HP_1 := Lib.hid (hp)
  have HG_1 := Lib.hid (grownBy_trans HG_0.out hg)
  have HZ_1 := Lib.hid (At.grown' HZ_0.out hg (fun q => by cases q; exact HNE.out rfl))
  have HA_1 := Lib.hid (At.grown' HA_0.out hg (fun q => by cases q; exact HNA.out rfl))
  have HT_1 := Lib.hid (hi)
  clear hp hg hi
  rw [HR.out] at HP_1 HT_1
  have hnode := one_node (kd := kd) (lo := 0) (hi' := 0) (neg := false) HT_1.out HQHT.out (by unfold I64; omega) I64_zero I64_zero
  have HNO := Lib.hid hnode
  clear hnode
  obtain ⟨w3, hw⟩ : ∃ w9, w9 = w2.alloc (.cells t.cs.toArray 34) := ⟨_, rfl⟩
  have hb : Below w2.heap.size w2 w3 := by rw [hw]; exact (Below.refl _ _).alloc (Nat.le_refl _) _
  have HWS := Lib.hid hw
  have HP_2 := Lib.hid (HP_1.out.next hb)
  have HG_2 := Lib.hid (grownBy_below HG_1.out hb)
  have HZ_2 := Lib.hid (At.below HZ_1.out hb HZ_1.out.lt)
  have HA_2 := Lib.hid (At.below HA_1.out hb HA_1.out.lt)
  have HT_2 := Lib.hid (HT_1.out.next hb)
  clear hb hw
  rw [← HWS.out] at HNO
  have hone := Tr.one (Tr.node kd ⟨0, 0, 0, 0⟩ (some ⟨w2.heap.size, 0, none⟩) 1 1 [t] 0 0 false)
  go_wp2_with (first
    | (with_reducible show wpList _ _ _ ({ dst := _, op := .buildSlice _ _ _, type := _, pos := _, after := _, guard := _ } :: _) _ _
       refine wpList_slice_tr rfl _ t rfl rfl ?_
       rw [← HWS.out])
    | (with_reducible show wpList _ _ _ ({ dst := none, op := .store _ _ _, type := _, pos := _, after := _, guard := _ } :: _) _ _
       refine wpList_store_row rfl 34 _ _ rfl (w.heap.size + 1) (Tr.node kd ⟨0, 0, 0, 0⟩ (some ⟨w2.heap.size, 0, none⟩) 1 1 [t] 0 0 false).cs.toArray rfl rfl 34 Tr.blank.cs.toArray HZ_2.out (by kernel_rfl) rfl hone ?_)
    | fail)
  have ho : Only (w.heap.size + 1) w3 (w3.setRow (w.heap.size + 1) (Tr.node kd ⟨0, 0, 0, 0⟩ (some ⟨w2.heap.size, 0, none⟩) 1 1 [t] 0 0 false).cs.toArray) := Only.row _ _ _
  exact bodyPost_ret (results_cell_row Try.results90 _ _ (w.heap.size + 1) 34 (Tr.node kd ⟨0, 0, 0, 0⟩ (some ⟨w2.heap.size, 0, none⟩) 1 1 [t] 0 0 false).cs.toArray (0, 0) _ rfl (HZ_2.out.row _) Try.underlying34 rfl (by kernel_rfl)) rfl ⟨(Tr.node kd ⟨0, 0, 0, 0⟩ (some ⟨w2.heap.size, 0, none⟩) 1 1 [t] 0 0 false), rfl, (HNO.out.grown ho.grownBy (Nat.le_trans hH0 (by have := HLT.out; omega)) (by have := HMHT.out; omega)).lower (by have := HMHT.out; omega), HP_2.out.keep (ho.below (Nat.le_succ _)) HLT.out, grownBy_from HG_2.out (ho.below (Nat.le_succ _)) (Nat.le_refl _)⟩

end Go.Proofs.Ytkbfoelffeocmaa
