/- The program's plain: a formed pattern made plain, in memory of its own. -/
import Derived.Test.YtibmcdgnponpmaaDoorProg
import Derived.Test.YtibmcdgnponpmaaDoorRefPlain
namespace Go.Proofs.YtibmcdgnponpmaaDoor
open Go.RowKit
set_option linter.unusedSimpArgs false
set_option linter.unusedVariables false

set_option maxRecDepth 100000 in
set_option maxHeartbeats 2000000 in
theorem eachNilP (k c : Nat) (A : Option Addr) (w : World) :
    Calls Tryd.prog 39 #[.slice A 0 c, .func (.func 30) #[] #[]] w fun e w' => e = .returned (.slice none 0 0) ∧ Below w.heap.size w w' := by
  go_enter Tryd.func39, Tryd.ntmps39
  go_wp2_with fail
  go_ret
  exact ⟨rfl, Below.refl _ _⟩

set_option maxRecDepth 100000 in
set_option maxHeartbeats 4000000 in
theorem eachSomeP (k c n b off : Nat) (parts : List Tr) (hF : MakesPlain 30 k) (w : World) (hn : n = parts.length) (h0 : 0 < n) (hn2 : n ≤ 2000) (hbw : b < w.heap.size)
    (hr : ∀ (j : Nat) (h : j < parts.length), w.rangeAt b (off + j * 9) parts[j].cs) (hin : ∀ (j : Nat) (h : j < parts.length), Tr.In w k parts[j]) (hsl : ∀ (j : Nat) (h : j < parts.length), slimS k parts[j]) :
    Calls Tryd.prog 39 #[.slice (some ⟨b, off, none⟩) n c, .func (.func 30) #[] #[]] w (EachPost plainP (k + 1) n parts w) := by
  have HF := Lib.hid hF
  have HN := Lib.hid hn
  have HR := Lib.hid hr
  have HI := Lib.hid hin
  have HSl := Lib.hid hsl
  have hm := make_re n (by omega)
  have hne1 : ¬ (n : Int) = 0 := by omega
  have hne := (int_ne hne1).1
  have H0 : Hid (RowTr (w.alloc (.cells (madeCells Tr.blank.cs.toArray (n * 9)) 27)) w.heap.size n (fun _ => Tr.blank)) := Lib.hid (made_row w n)
  have HB0 : Hid (Below w.heap.size w (w.alloc (.cells (madeCells Tr.blank.cs.toArray (n * 9)) 27))) := Lib.hid ((Below.refl _ _).alloc (Nat.le_refl _) _)
  clear hF hn hr hin hsl
  go_enter Tryd.func39, Tryd.ntmps39
  go_wp2_with fail
  clear hm
  generalize hw1 : w.alloc (.cells (madeCells Tr.blank.cs.toArray (n * 9)) 27) = w1 at H0 HB0 ⊢
  clear hw1
  go_loopw [16] (fun i wr => ∃ (j : Nat) (ps : Nat → Tr), j ≤ n ∧ i = .int .i64 j ∧ Hid (RowTr wr w.heap.size n ps) ∧ Hid (∀ (p : Nat) (h : p < parts.length), p < j → Tr.In wr (k + 1) (ps p) ∧ Tr.From (w.heap.size + 1) (k + 1) (ps p) ∧ (ps p).strip (k + 1) = plainP (k + 1) parts[p]) ∧ Hid (Below w.heap.size w wr)) (fun i _ => n - (intOf i).toNat)
  case atStart => exact ⟨0, fun _ => Tr.blank, Nat.zero_le _, rfl, H0, Lib.hid (fun p _ hp => absurd hp (Nat.not_lt_zero _)), HB0⟩
  case round =>
    clear H0 HB0
    obtain ⟨j, ps, hj, rfl, HP, HD, HB⟩ := hrel
    have hgl := HP.out.lt h0
    by_cases hlt : j < n
    · have hlt' : j < parts.length := by rw [← HN.out]; exact hlt
      have HRj := Lib.hid (range_below (HR.out j hlt') hbw (Nat.le_refl _) HB.out)
      have HIj := Lib.hid (((HI.out j hlt').next HB.out).next (boxW_next wr parts[j]))
      have HSj := Lib.hid (HSl.out j hlt')
      have hA2 := boxW_at wr parts[j]
      obtain ⟨t, ht⟩ : ∃ t, parts[j] = t := ⟨_, rfl⟩
      have HT := Lib.hid ht
      rw [ht] at HRj HIj HSj hA2
      clear ht
      have HBx := Lib.hid (boxW_below HB.out t)
      have hjz : (0 : Int) ≤ (j : Int) := by omega
      have hjn : (j : Int) < (n : Int) := by omega
      go_wp2_with (first
        | (refine wpList_load_mid rfl 27 _ rfl b (off + j * 9) rfl t.cs _ HRj.out Tryd.underlying27 rfl (by rw [Tr.cs_length]; kernel_rfl) ?_)
        | (refine wpList_store_row rfl 27 _ _ rfl wr.heap.size t.cs.toArray rfl rfl 27 Tr.blank.cs.toArray (At.new _ _ _) (by kernel_rfl) rfl (Tr.one _) ?_; change Exit.then _ _ _ _ (boxW wr t))
        | (refine wpList_load_row rfl 27 _ rfl wr.heap.size rfl 27 t.cs.toArray (0, 0) _ hA2 Tryd.underlying27 rfl (by kernel_rfl) ?_) | fail)
      refine (HF.out t _ HIj.out HSj.out).mono ?_
      rintro e w3 ⟨t2, rfl, hin2, hfr2, hst2, hb3⟩
      have hsz := boxW_size wr t
      have HP3 := Lib.hid ((HP.out.below (boxW_next wr t) hgl).below hb3 (by rw [hsz]; omega))
      have HB3 := Lib.hid (HBx.out.trans (hb3.mono HBx.out.size))
      have HD3 : Hid (∀ (p : Nat) (h : p < parts.length), p < j → Tr.In w3 (k + 1) (ps p) ∧ Tr.From (w.heap.size + 1) (k + 1) (ps p) ∧ (ps p).strip (k + 1) = plainP (k + 1) parts[p]) := fun p hp hpj =>
        ⟨((HD.out p hp hpj).1.next (boxW_next wr t)).next hb3, (HD.out p hp hpj).2⟩
      have HI2 := Lib.hid hin2
      have HF2 := Lib.hid (Tr.From.lower (show w.heap.size + 1 ≤ (boxW wr t).heap.size by rw [hsz]; omega) (k + 1) t2 hfr2)
      have HS2 : Hid (t2.strip (k + 1) = plainP (k + 1) parts[j]) := by rw [HT.out]; exact hst2
      clear hin2 hfr2 hst2 hb3 hsz hA2
      have hone := Tr.one t2
      have hth : w3.there w.heap.size (j * 9) t2.cs.toArray.size := HP3.out.there j hlt
      go_wp2_with (first
        | (with_reducible show wpList _ _ _ ({ dst := none, op := .store _ _ _, type := _, pos := _, after := _, guard := _ } :: _) _ _
           refine wpList_store_mid rfl 27 _ _ rfl w.heap.size (j * 9) t2.cs.toArray rfl rfl hth (by kernel_rfl) hone ?_
           change wpList _ _ _ _ _ (putW w3 w.heap.size j t2)) | fail)
      have hO := putW_only w3 w.heap.size j t2
      refine ⟨⟨j + 1, fun p => if p = j then t2 else ps p, by omega, by go_num, Lib.hid (putW_row HP3.out hlt t2), Lib.hid (fun p hp hpj => ?_), Lib.hid (HB3.out.trans (hO.below (Nat.le_refl _)))⟩, by simp [intOf]; omega⟩
      by_cases e : p = j
      · subst e
        simp only [if_true]
        exact ⟨HI2.out.only HF2.out hO (by omega), HF2.out, HS2.out⟩
      · simp only [if_neg e]
        have hq := HD3.out p hp (by omega)
        exact ⟨hq.1.only hq.2.1 hO (by omega), hq.2.1, hq.2.2⟩
    · obtain rfl : j = n := by omega
      go_wp2_with fail
      go_ret
      exact ⟨_, _, ps, rfl, fun e => absurd e (by omega), fun _ => ⟨w.heap.size, rfl, Nat.le_refl _, hgl, HP.out, fun p hp => HD.out p hp (by rw [HN.out]; exact hp)⟩, HB.out⟩

theorem eachAnyP (k : Nat) (hF : MakesPlain 30 k) (t : Tr) (w : World) (h : Tr.In w (k + 1) t) (hs : slimS (k + 1) t) :
    Calls Tryd.prog 39 #[.slice t.addr t.parts.length t.cap, .func (.func 30) #[] #[]] w (EachPost plainP (k + 1) t.parts.length t.parts w) := by
  by_cases h0 : t.parts.length = 0
  · rw [h0]
    refine (eachNilP k t.cap t.addr w).mono ?_
    rintro e w' ⟨rfl, hb⟩
    exact ⟨none, 0, fun _ => Tr.blank, rfl, fun _ => ⟨rfl, rfl⟩, fun q => absurd q (Nat.lt_irrefl _), hb⟩
  · obtain ⟨b, off, ha, hb, hr⟩ := h.2.2.1 (by rw [h.2.1.1]; omega)
    rw [ha]
    exact eachSomeP k t.cap t.parts.length b off t.parts hF w rfl (by omega) hs.1 hb hr h.2.2.2 (fun j hj => hs.2 _ (List.getElem_mem hj))

set_option maxRecDepth 100000 in
set_option maxHeartbeats 2000000 in
theorem noBytes (w : World) : Calls Tryd.prog 40 #[] w fun e w' => e = .returned (.agg (leafP 2).cs.toArray) ∧ Below w.heap.size w w' := by
  have HZ : Hid (At (w.alloc (.cells #[.int .i64 0, .int .u64 0, .int .u64 0, .int .u64 0, .int .u64 0, .slice none 0 0, .int .i64 0, .int .i64 0, .bool false] 27)) w.heap.size 27 Tr.blank.cs.toArray) := Lib.hid (At.new w 27 Tr.blank.cs.toArray)
  have HB : Hid (Below w.heap.size w (w.alloc (.cells #[.int .i64 0, .int .u64 0, .int .u64 0, .int .u64 0, .int .u64 0, .slice none 0 0, .int .i64 0, .int .i64 0, .bool false] 27))) := Lib.hid ((Below.refl _ _).alloc (Nat.le_refl _) _)
  have hone := Tr.one (leafP 2)
  go_enter Tryd.func40, Tryd.ntmps40
  go_wp2_with (first
  | (with_reducible show wpList _ _ _ ({ dst := _, op := .build _ _, type := _, pos := _, after := _, guard := _ } :: _) _ _
     refine wpList_build_as rfl 27 _ rfl (leafP 2).cs.toArray built_leaf2 ?_)
  | (with_reducible show wpList _ _ _ ({ dst := none, op := .store 27 _ _, type := _, pos := _, after := _, guard := _ } :: _) _ _
     refine wpList_store_row rfl 27 _ _ rfl w.heap.size (leafP 2).cs.toArray rfl rfl 27 Tr.blank.cs.toArray HZ.out (by kernel_rfl) rfl hone ?_)
  | fail)
  have hO : Only w.heap.size (w.alloc (.cells #[.int .i64 0, .int .u64 0, .int .u64 0, .int .u64 0, .int .u64 0, .slice none 0 0, .int .i64 0, .int .i64 0, .bool false] 27)) ((w.alloc (.cells #[.int .i64 0, .int .u64 0, .int .u64 0, .int .u64 0, .int .u64 0, .slice none 0 0, .int .i64 0, .int .i64 0, .bool false] 27)).setRow w.heap.size (leafP 2).cs.toArray) := Only.row _ _ _
  exact bodyPost_ret (results_cell_row Tryd.results40 _ _ w.heap.size 27 (leafP 2).cs.toArray (0, 0) _ rfl (HZ.out.row _) Tryd.underlying27 rfl (by kernel_rfl)) rfl ⟨rfl, HB.out.trans (hO.below (Nat.le_refl _))⟩
/-- What a plain row of none is. -/
def noneP (kd : Int) (k : Nat) (w : World) (e : Ending) (w' : World) : Prop := ∃ t2 : Tr, e = .returned (.agg t2.cs.toArray) ∧ Tr.In w' (k + 1 + 1) t2 ∧ Tr.From w.heap.size (k + 1 + 1) t2 ∧ t2.strip (k + 1 + 1) = (if kd = 3 then leafP 1 else if kd = 5 then allP else leafP 2) ∧ Below w.heap.size w w'
theorem none_strip3 (k : Nat) : (leafP 1).strip (k + 1 + 1) = (if (3 : Int) = 3 then leafP 1 else if (3 : Int) = 5 then allP else leafP 2) := by rw [if_pos (by decide)]; rfl
theorem none_strip4 (k : Nat) : (leafP 2).strip (k + 1 + 1) = (if (4 : Int) = 3 then leafP 1 else if (4 : Int) = 5 then allP else leafP 2) := by rw [if_neg (by decide), if_neg (by decide)]; rfl
theorem none_strip5 (k g : Nat) : (allQ g).strip (k + 1 + 1) = (if (5 : Int) = 3 then leafP 1 else if (5 : Int) = 5 then allP else leafP 2) := by rw [if_neg (by decide), if_pos (by decide)]; rfl
set_option maxRecDepth 100000 in
set_option maxHeartbeats 2000000 in
theorem plainOfNone (kd : Int) (hk : kd = 3 ∨ kd = 4 ∨ kd = 5) (k : Nat) (w : World) : Calls Tryd.prog 41 #[.int .i64 kd] w (noneP kd k w) := by
  have HZ : Hid (At (w.alloc (.cells #[.int .i64 0, .int .u64 0, .int .u64 0, .int .u64 0, .int .u64 0, .slice none 0 0, .int .i64 0, .int .i64 0, .bool false] 27)) w.heap.size 27 Tr.blank.cs.toArray) := Lib.hid (At.new w 27 Tr.blank.cs.toArray)
  have HB : Hid (Below w.heap.size w (w.alloc (.cells #[.int .i64 0, .int .u64 0, .int .u64 0, .int .u64 0, .int .u64 0, .slice none 0 0, .int .i64 0, .int .i64 0, .bool false] 27))) := Lib.hid ((Below.refl _ _).alloc (Nat.le_refl _) _)
  rcases hk with rfl | rfl | rfl
  · have hone := Tr.one (leafP 1)
    go_enter Tryd.func41, Tryd.ntmps41
    go_wp2_with (first
    | (with_reducible show wpList _ _ _ ({ dst := _, op := .build _ _, type := _, pos := _, after := _, guard := _ } :: _) _ _
       refine wpList_build_as rfl 27 _ rfl (leafP 1).cs.toArray built_leaf1 ?_)
    | (with_reducible show wpList _ _ _ ({ dst := none, op := .store 27 _ _, type := _, pos := _, after := _, guard := _ } :: _) _ _
       refine wpList_store_row rfl 27 _ _ rfl w.heap.size (leafP 1).cs.toArray rfl rfl 27 Tr.blank.cs.toArray HZ.out (by kernel_rfl) rfl hone ?_)
    | fail)
    have hO : Only w.heap.size (w.alloc (.cells #[.int .i64 0, .int .u64 0, .int .u64 0, .int .u64 0, .int .u64 0, .slice none 0 0, .int .i64 0, .int .i64 0, .bool false] 27)) ((w.alloc (.cells #[.int .i64 0, .int .u64 0, .int .u64 0, .int .u64 0, .int .u64 0, .slice none 0 0, .int .i64 0, .int .i64 0, .bool false] 27)).setRow w.heap.size (leafP 1).cs.toArray) := Only.row _ _ _
    have hp : noneP 3 k w (.returned (.agg (leafP 1).cs.toArray)) ((w.alloc (.cells #[.int .i64 0, .int .u64 0, .int .u64 0, .int .u64 0, .int .u64 0, .slice none 0 0, .int .i64 0, .int .i64 0, .bool false] 27)).setRow w.heap.size (leafP 1).cs.toArray) := ⟨leafP 1, rfl, leafP_in _ _ (by unfold I64; omega), leafP_from _ _ _, none_strip3 k, HB.out.trans (hO.below (Nat.le_refl _))⟩
    exact bodyPost_ret (results_cell_row Tryd.results41 _ _ w.heap.size 27 (leafP 1).cs.toArray (0, 0) _ rfl (HZ.out.row _) Tryd.underlying27 rfl (by kernel_rfl)) rfl hp
  · have hone := Tr.one (leafP 2)
    go_enter Tryd.func41, Tryd.ntmps41
    go_wp2_with fail
    refine (noBytes _).mono ?_
    rintro e w1 ⟨rfl, hb1⟩
    have HZ1 := Lib.hid (HZ.out.below hb1 HZ.out.lt)
    have HB1 := Lib.hid (HB.out.trans (hb1.mono HB.out.size))
    clear hb1
    go_wp2_with (first
    | (with_reducible show wpList _ _ _ ({ dst := none, op := .store 27 _ _, type := _, pos := _, after := _, guard := _ } :: _) _ _
       refine wpList_store_row rfl 27 _ _ rfl w.heap.size (leafP 2).cs.toArray rfl rfl 27 Tr.blank.cs.toArray HZ1.out (by kernel_rfl) rfl hone ?_)
    | fail)
    have hO : Only w.heap.size w1 (w1.setRow w.heap.size (leafP 2).cs.toArray) := Only.row _ _ _
    have hp : noneP 4 k w (.returned (.agg (leafP 2).cs.toArray)) (w1.setRow w.heap.size (leafP 2).cs.toArray) := ⟨leafP 2, rfl, leafP_in _ _ (by unfold I64; omega), leafP_from _ _ _, none_strip4 k, HB1.out.trans (hO.below (Nat.le_refl _))⟩
    exact bodyPost_ret (results_cell_row Tryd.results41 _ _ w.heap.size 27 (leafP 2).cs.toArray (0, 0) _ rfl (HZ1.out.row _) Tryd.underlying27 rfl (by kernel_rfl)) rfl hp
  · go_enter Tryd.func41, Tryd.ntmps41
    go_wp2_with fail
    refine (noBytes _).mono ?_
    rintro e w1 ⟨rfl, hb1⟩
    obtain ⟨gb, hgb⟩ : ∃ gb, gb = w1.heap.size := ⟨_, rfl⟩
    obtain ⟨w7, hw7⟩ : ∃ w7, w7 = w1.alloc (.cells (leafP 2).cs.toArray 27) := ⟨_, rfl⟩
    have HW7 := Lib.hid hw7
    have HGb := Lib.hid hgb
    have hB7 : Below w1.heap.size w1 w7 := by rw [hw7]; exact (Below.refl _ _).alloc (Nat.le_refl _) _
    have HAt7 : Hid (At w7 gb 27 (leafP 2).cs.toArray) := Lib.hid (by rw [hw7, hgb]; exact At.new _ _ _)
    have hz1 := HZ.out.below hb1 HZ.out.lt
    have HZ1 := Lib.hid (hz1.below hB7 hz1.lt)
    have hb2 := HB.out.trans (hb1.mono HB.out.size)
    have HB1 := Lib.hid (hb2.trans (hB7.mono hb2.size))
    have HG : Hid (w.heap.size + 1 ≤ gb) := Lib.hid (by rw [hgb]; have := hz1.lt; omega)
    have hone := Tr.one (allQ gb)
    clear hb1 hz1 hb2 hB7 hw7 hgb
    go_wp2_with (first
    | (with_reducible show wpList _ _ _ ({ dst := _, op := .build _ _, type := _, pos := _, after := _, guard := _ } :: _) _ _
       refine wpList_build_as rfl 27 _ rfl (allQ gb).cs.toArray (built_all gb) ?_)
    | (with_reducible show wpList _ _ _ ({ dst := _, op := .buildSlice _ _ _, type := _, pos := _, after := _, guard := _ } :: _) _ _
       refine wpList_slice_tr rfl _ (leafP 2) rfl rfl ?_
       rw [← HW7.out, ← HGb.out])
    | (with_reducible show wpList _ _ _ ({ dst := none, op := .store 27 _ _, type := _, pos := _, after := _, guard := _ } :: _) _ _
       refine wpList_store_row rfl 27 _ _ rfl w.heap.size (allQ gb).cs.toArray rfl rfl 27 Tr.blank.cs.toArray HZ1.out (by kernel_rfl) rfl hone ?_)
    | fail)
    have hO : Only w.heap.size w7 (w7.setRow w.heap.size (allQ gb).cs.toArray) := Only.row _ _ _
    have hg := HG.out
    have hp : noneP 5 k w (.returned (.agg (allQ gb).cs.toArray)) (w7.setRow w.heap.size (allQ gb).cs.toArray) := ⟨allQ gb, rfl, allQ_in (hO.at HAt7.out (by omega)), allQ_from (by omega), none_strip5 k gb, HB1.out.trans (hO.below (Nat.le_refl _))⟩
    exact bodyPost_ret (results_cell_row Tryd.results41 _ _ w.heap.size 27 (allQ gb).cs.toArray (0, 0) _ rfl (HZ1.out.row _) Tryd.underlying27 rfl (by kernel_rfl)) rfl hp

set_option maxRecDepth 100000 in
set_option maxHeartbeats 8000000 in
theorem treePlain_step (k : Nat) (ih : MakesPlain 30 k) (t : Tr) (w : World) (h : Tr.In w (k + 1) t) (hs : slimS (k + 1) t) :
    Calls Tryd.prog 30 #[.agg t.cs.toArray] w (MadePlain (k + 1) t w) := by
  have hn := h.2.1.1
  have HN := Lib.hid hn
  have HI := Lib.hid h
  have HIH := Lib.hid ih
  have HSl := Lib.hid hs
  obtain ⟨w2, hw2⟩ : ∃ w2, w2 = (w.alloc (.cells t.cs.toArray 27)).alloc (.cells #[.int .i64 0, .int .u64 0, .int .u64 0, .int .u64 0, .int .u64 0, .slice none 0 0, .int .i64 0, .int .i64 0, .bool false] 27) := ⟨_, rfl⟩
  have HA0 : Hid (At w2 w.heap.size 27 t.cs.toArray) := Lib.hid (by rw [hw2]; exact (At.new _ _ _).alloc _)
  have HZ0 : Hid (At w2 (w.heap.size + 1) 27 Tr.blank.cs.toArray) := Lib.hid (by rw [hw2]; exact at_new' (w.alloc (.cells t.cs.toArray 27)) (w.heap.size + 1) 27 (cs := Tr.blank.cs.toArray) (by simp))
  have HB0 : Hid (Below w.heap.size w w2) := Lib.hid (by rw [hw2]; exact below_two _ _)
  have HW2 := Lib.hid hw2
  have hsz2 : w2.heap.size = w.heap.size + 2 := by rw [hw2]; simp
  have HSz := Lib.hid hsz2
  obtain ⟨c0, c5, c6, c7, c8⟩ := At.tr_cell HA0.out
  rw [hw2] at c5
  rw [hn] at c5
  clear h hs ih hn hw2 hsz2 c0 c6 c7 c8
  go_enter Tryd.func30, Tryd.ntmps30
  go_wp2_with fail
  rw [← HW2.out]
  refine (eachAnyP k HIH.out t _ (HI.out.next HB0.out) HSl.out).mono ?_
  rintro e w3 ⟨A, c2, ps, rfl, hA0, hrow, hb3⟩
  have HA3 := Lib.hid (HA0.out.below hb3 HA0.out.lt)
  have HZ3 := Lib.hid (HZ0.out.below hb3 HZ0.out.lt)
  have HB3 := Lib.hid (HB0.out.trans (hb3.mono HB0.out.size))
  have HR3 : Hid (RowOf plainP w3 (w.heap.size + 2) (k + 1) t.parts.length A t.parts ps) := Lib.hid (by rw [← HSz.out]; exact hrow)
  have HS3 : Hid (w.heap.size + 2 ≤ w3.heap.size) := Lib.hid (by have := hb3.size; have := HSz.out; omega)
  clear hb3 hrow hA0 c5
  have q5 := HA3.out.cell 5
  have f5 := HA3.out.free 5
  have r5 : t.cs.toArray[5]? = some (.slice t.addr t.n t.cap) := rfl
  rw [r5] at q5
  clear r5
  have HAu : Hid (At (w3.setCell ⟨w.heap.size, 5, none⟩ (.slice A t.parts.length c2)) w.heap.size 27 (Tr.node t.kind t.set A t.parts.length c2 ((List.range t.parts.length).map ps) t.lo t.hi t.neg).cs.toArray) := Lib.hid (HA3.out.set 5 _)
  have HZu : Hid (At (w3.setCell ⟨w.heap.size, 5, none⟩ (.slice A t.parts.length c2)) (w.heap.size + 1) 27 Tr.blank.cs.toArray) := Lib.hid (HZ3.out.other (p := ⟨w.heap.size, 5, none⟩) (by dsimp only; omega) _)
  have HRu : Hid (RowOf plainP (w3.setCell ⟨w.heap.size, 5, none⟩ (.slice A t.parts.length c2)) (w.heap.size + 2) (k + 1) t.parts.length A t.parts ps) := Lib.hid (HR3.out.only ((Only.refl w.heap.size w3).cell 5 _) (by omega))
  have HBu : Hid (Below w.heap.size w (w3.setCell ⟨w.heap.size, 5, none⟩ (.slice A t.parts.length c2))) := Lib.hid (HB3.out.setCell (Nat.le_refl _) _)
  have HSu : Hid (w.heap.size + 2 ≤ (w3.setCell ⟨w.heap.size, 5, none⟩ (.slice A t.parts.length c2)).heap.size) := Lib.hid (by simp; exact HS3.out)
  have hone := Tr.one (Tr.node t.kind t.set A t.parts.length c2 ((List.range t.parts.length).map ps) t.lo t.hi t.neg)
  have u0 : (w3.setCell ⟨w.heap.size, 5, none⟩ (.slice A t.parts.length c2)).cell? ⟨w.heap.size, 0, none⟩ = some (.int .i64 t.kind) := HAu.out.cell 0
  have u5 : (w3.setCell ⟨w.heap.size, 5, none⟩ (.slice A t.parts.length c2)).cell? ⟨w.heap.size, 5, none⟩ = some (.slice A t.parts.length c2) := HAu.out.cell 5
  by_cases hk : t.kind = 0
  · rw [hk] at u0
    have HE : Hid (leafP 2 = plainS (k + 1) t) := Lib.hid (plain_none hk).symm
    have hone2 := Tr.one (leafP 2)
    go_wp2_with fail
    refine (noBytes _).mono ?_
    rintro e w5 ⟨rfl, hb5⟩
    have HZ5 := Lib.hid (HZu.out.below hb5 HZu.out.lt)
    have HB5 := Lib.hid (HBu.out.trans (hb5.mono HBu.out.size))
    clear hb5
    go_wp2_with (first
      | (with_reducible show wpList _ _ _ ({ dst := none, op := .store 27 _ _, type := _, pos := _, after := _, guard := _ } :: _) _ _
         refine wpList_store_row rfl 27 _ _ rfl (w.heap.size + 1) (leafP 2).cs.toArray rfl rfl 27 Tr.blank.cs.toArray HZ5.out (by kernel_rfl) rfl hone2 ?_)
      | fail)
    have hO : Only (w.heap.size + 1) w5 (w5.setRow (w.heap.size + 1) (leafP 2).cs.toArray) := Only.row _ _ _
    exact bodyPost_ret (results_cell_row Tryd.results30 _ _ (w.heap.size + 1) 27 (leafP 2).cs.toArray (0, 0) _ rfl (HZ5.out.row _) Tryd.underlying27 rfl (by kernel_rfl)) rfl ⟨_, rfl, leafP_in _ _ (by unfold I64; omega), leafP_from _ _ _, HE.out, HB5.out.trans (hO.below (by omega))⟩
  by_cases hk : t.kind = 3
  · by_cases hl0 : t.parts.length = 0
    · have HE : Hid ((if (3 : Int) = 3 then leafP 1 else if (3 : Int) = 5 then allP else leafP 2) = plainS (k + 1) t) := Lib.hid (by rw [plain_cat hk hl0]; rfl)
      rw [hk] at u0
      rw [hl0]
      rw [hl0] at u0 u5 HZu HBu HSu HAu HRu
      go_wp2_with fail
      refine (plainOfNone 3 (by decide) k _).mono ?_
      rintro e w5 ⟨t2, rfl, hi2, hf2, hs2, hb5⟩
      have HZ5 := Lib.hid (HZu.out.below hb5 HZu.out.lt)
      have HB5 := Lib.hid (HBu.out.trans (hb5.mono HBu.out.size))
      have HI2 := Lib.hid hi2
      have HF2 := Lib.hid (hf2.lower (show w.heap.size + 2 ≤ (w3.setCell ⟨w.heap.size, 5, none⟩ (.slice A 0 c2)).heap.size from HSu.out))
      have HS2 := Lib.hid (hs2.trans HE.out)
      have hone2 := Tr.one t2
      clear hb5 hi2 hf2 hs2
      go_wp2_with (first
        | (with_reducible show wpList _ _ _ ({ dst := none, op := .store 27 _ _, type := _, pos := _, after := _, guard := _ } :: _) _ _
           refine wpList_store_row rfl 27 _ _ rfl (w.heap.size + 1) t2.cs.toArray rfl rfl 27 Tr.blank.cs.toArray HZ5.out (by kernel_rfl) rfl hone2 ?_)
        | fail)
      have hO : Only (w.heap.size + 1) w5 (w5.setRow (w.heap.size + 1) t2.cs.toArray) := Only.row _ _ _
      exact bodyPost_ret (results_cell_row Tryd.results30 _ _ (w.heap.size + 1) 27 t2.cs.toArray (0, 0) _ rfl (HZ5.out.row _) Tryd.underlying27 rfl (by kernel_rfl)) rfl ⟨_, rfl, HI2.out.only HF2.out hO (by omega), HF2.out.lower (by omega), HS2.out, HB5.out.trans (hO.below (by omega))⟩
    · by_cases hl1 : t.parts.length = 1
      · obtain ⟨g, ha, hg1, hg2, hrow, hps⟩ := HRu.out (by omega)
        obtain ⟨m1, m2, m3⟩ := hps 0 (by omega)
        have HRg := Lib.hid (hrow.at_ 0 (by omega))
        rw [Nat.zero_mul] at HRg
        have HE : Hid (plainP (k + 1) (t.parts[0]'(by omega)) = plainS (k + 1) t) := Lib.hid (plain_one (by omega) hl1).symm
        have HM : Hid (Tr.In (w3.setCell ⟨w.heap.size, 5, none⟩ (.slice A t.parts.length c2)) (k + 1) (ps 0) ∧ Tr.From (g + 1) (k + 1) (ps 0) ∧ (ps 0).strip (k + 1) = plainS (k + 1) t) := Lib.hid ⟨m1, m2, m3.trans HE.out⟩
        have HG : Hid (w.heap.size + 2 ≤ g) := Lib.hid hg1
        obtain ⟨p, hp⟩ : ∃ p, ps 0 = p := ⟨_, rfl⟩
        rw [hp] at HRg HM
        have hone2 := Tr.one p
        rw [hk] at u0
        rw [ha, hl1] at u0 u5
        rw [ha, hl1]
        rw [ha, hl1] at HZu HBu HM HRg HSu
        clear hg1 hg2 hrow hps m1 m2 m3 hp HAu HRu
        go_wp2_with (first
          | (with_reducible show wpList _ _ _ ({ dst := _, op := .load 27 _, type := _, pos := _, after := _, guard := _ } :: _) _ _
             refine wpList_load_mid rfl 27 _ rfl g 0 rfl p.cs _ HRg.out Tryd.underlying27 rfl (by rw [Tr.cs_length]; kernel_rfl) ?_)
          | (with_reducible show wpList _ _ _ ({ dst := none, op := .store 27 _ _, type := _, pos := _, after := _, guard := _ } :: _) _ _
             refine wpList_store_row rfl 27 _ _ rfl (w.heap.size + 1) p.cs.toArray rfl rfl 27 Tr.blank.cs.toArray HZu.out (by kernel_rfl) rfl hone2 ?_)
          | fail)
        have hO : Only (w.heap.size + 1) (w3.setCell ⟨w.heap.size, 5, none⟩ (.slice (some ⟨g, 0, none⟩) 1 c2)) ((w3.setCell ⟨w.heap.size, 5, none⟩ (.slice (some ⟨g, 0, none⟩) 1 c2)).setRow (w.heap.size + 1) p.cs.toArray) := Only.row _ _ _
        have hg := HG.out
        exact bodyPost_ret (results_cell_row Tryd.results30 _ _ (w.heap.size + 1) 27 p.cs.toArray (0, 0) _ rfl (HZu.out.row _) Tryd.underlying27 rfl (by kernel_rfl)) rfl ⟨_, rfl, (HM.out.1.only HM.out.2.1 hO (by omega)).up', Tr.From.up HM.out.1 (HM.out.2.1.lower (by omega)), (strip_succ HM.out.1).trans HM.out.2.2, HBu.out.trans (hO.below (by omega))⟩
      · have hl2 : 2 ≤ t.parts.length := by omega
        have e0 : ((t.parts.length : Int) == 0) = false := beq_eq_false_iff_ne.2 (by omega)
        have e1 : ((t.parts.length : Int) == 1) = false := beq_eq_false_iff_ne.2 (by omega)
        have e0n : (t.parts.length == 0) = false := beq_eq_false_iff_ne.2 (by omega)
        have e1n : (t.parts.length == 1) = false := beq_eq_false_iff_ne.2 (by omega)
        rw [hk] at u0
        have HE : Hid (Tr.node t.kind t.set none t.parts.length 0 (t.parts.map (plainP (k + 1))) t.lo t.hi t.neg = plainS (k + 1) t) := Lib.hid (plain_node (by omega) (by omega)).symm
        go_wp2_with (first
          | (with_reducible show wpList _ _ _ ({ dst := _, op := .load 27 _, type := _, pos := _, after := _, guard := _ } :: _) _ _
             refine wpList_load_row rfl 27 _ rfl w.heap.size rfl 27 (Tr.node t.kind t.set A t.parts.length c2 ((List.range t.parts.length).map ps) t.lo t.hi t.neg).cs.toArray (0, 0) _ HAu.out Tryd.underlying27 rfl (by kernel_rfl) ?_)
          | (with_reducible show wpList _ _ _ ({ dst := none, op := .store 27 _ _, type := _, pos := _, after := _, guard := _ } :: _) _ _
             refine wpList_store_row rfl 27 _ _ rfl (w.heap.size + 1) (Tr.node t.kind t.set A t.parts.length c2 ((List.range t.parts.length).map ps) t.lo t.hi t.neg).cs.toArray rfl rfl 27 Tr.blank.cs.toArray HZu.out (by kernel_rfl) rfl hone ?_)
          | fail)
        have hO : Only (w.heap.size + 1) (w3.setCell ⟨w.heap.size, 5, none⟩ (.slice A t.parts.length c2)) ((w3.setCell ⟨w.heap.size, 5, none⟩ (.slice A t.parts.length c2)).setRow (w.heap.size + 1) (Tr.node t.kind t.set A t.parts.length c2 ((List.range t.parts.length).map ps) t.lo t.hi t.neg).cs.toArray) := Only.row _ _ _
        obtain ⟨m1, m2, m3⟩ := made_in (S := plainP) (c := c2) (lo := t.lo) (hi := t.hi) (neg := t.neg) (kd := t.kind) HI.out.1.1 HI.out.1.2.1 HI.out.1.2.2.1 HI.out.1.2.2.2 (by rfl) HSl.out.1 (HRu.out.only hO (by omega))
        exact bodyPost_ret (results_cell_row Tryd.results30 _ _ (w.heap.size + 1) 27 (Tr.node t.kind t.set A t.parts.length c2 ((List.range t.parts.length).map ps) t.lo t.hi t.neg).cs.toArray (0, 0) _ rfl (HZu.out.row _) Tryd.underlying27 rfl (by kernel_rfl)) rfl ⟨_, rfl, m1, m2.lower (by omega), m3.trans HE.out, HBu.out.trans (hO.below (by omega))⟩
  by_cases hk : t.kind = 4
  · by_cases hl0 : t.parts.length = 0
    · have HE : Hid ((if (4 : Int) = 3 then leafP 1 else if (4 : Int) = 5 then allP else leafP 2) = plainS (k + 1) t) := Lib.hid (by rw [plain_or hk hl0]; rfl)
      rw [hk] at u0
      rw [hl0]
      rw [hl0] at u0 u5 HZu HBu HSu HAu HRu
      go_wp2_with fail
      refine (plainOfNone 4 (by decide) k _).mono ?_
      rintro e w5 ⟨t2, rfl, hi2, hf2, hs2, hb5⟩
      have HZ5 := Lib.hid (HZu.out.below hb5 HZu.out.lt)
      have HB5 := Lib.hid (HBu.out.trans (hb5.mono HBu.out.size))
      have HI2 := Lib.hid hi2
      have HF2 := Lib.hid (hf2.lower (show w.heap.size + 2 ≤ (w3.setCell ⟨w.heap.size, 5, none⟩ (.slice A 0 c2)).heap.size from HSu.out))
      have HS2 := Lib.hid (hs2.trans HE.out)
      have hone2 := Tr.one t2
      clear hb5 hi2 hf2 hs2
      go_wp2_with (first
        | (with_reducible show wpList _ _ _ ({ dst := none, op := .store 27 _ _, type := _, pos := _, after := _, guard := _ } :: _) _ _
           refine wpList_store_row rfl 27 _ _ rfl (w.heap.size + 1) t2.cs.toArray rfl rfl 27 Tr.blank.cs.toArray HZ5.out (by kernel_rfl) rfl hone2 ?_)
        | fail)
      have hO : Only (w.heap.size + 1) w5 (w5.setRow (w.heap.size + 1) t2.cs.toArray) := Only.row _ _ _
      exact bodyPost_ret (results_cell_row Tryd.results30 _ _ (w.heap.size + 1) 27 t2.cs.toArray (0, 0) _ rfl (HZ5.out.row _) Tryd.underlying27 rfl (by kernel_rfl)) rfl ⟨_, rfl, HI2.out.only HF2.out hO (by omega), HF2.out.lower (by omega), HS2.out, HB5.out.trans (hO.below (by omega))⟩
    · by_cases hl1 : t.parts.length = 1
      · obtain ⟨g, ha, hg1, hg2, hrow, hps⟩ := HRu.out (by omega)
        obtain ⟨m1, m2, m3⟩ := hps 0 (by omega)
        have HRg := Lib.hid (hrow.at_ 0 (by omega))
        rw [Nat.zero_mul] at HRg
        have HE : Hid (plainP (k + 1) (t.parts[0]'(by omega)) = plainS (k + 1) t) := Lib.hid (plain_one (by omega) hl1).symm
        have HM : Hid (Tr.In (w3.setCell ⟨w.heap.size, 5, none⟩ (.slice A t.parts.length c2)) (k + 1) (ps 0) ∧ Tr.From (g + 1) (k + 1) (ps 0) ∧ (ps 0).strip (k + 1) = plainS (k + 1) t) := Lib.hid ⟨m1, m2, m3.trans HE.out⟩
        have HG : Hid (w.heap.size + 2 ≤ g) := Lib.hid hg1
        obtain ⟨p, hp⟩ : ∃ p, ps 0 = p := ⟨_, rfl⟩
        rw [hp] at HRg HM
        have hone2 := Tr.one p
        rw [hk] at u0
        rw [ha, hl1] at u0 u5
        rw [ha, hl1]
        rw [ha, hl1] at HZu HBu HM HRg HSu
        clear hg1 hg2 hrow hps m1 m2 m3 hp HAu HRu
        go_wp2_with (first
          | (with_reducible show wpList _ _ _ ({ dst := _, op := .load 27 _, type := _, pos := _, after := _, guard := _ } :: _) _ _
             refine wpList_load_mid rfl 27 _ rfl g 0 rfl p.cs _ HRg.out Tryd.underlying27 rfl (by rw [Tr.cs_length]; kernel_rfl) ?_)
          | (with_reducible show wpList _ _ _ ({ dst := none, op := .store 27 _ _, type := _, pos := _, after := _, guard := _ } :: _) _ _
             refine wpList_store_row rfl 27 _ _ rfl (w.heap.size + 1) p.cs.toArray rfl rfl 27 Tr.blank.cs.toArray HZu.out (by kernel_rfl) rfl hone2 ?_)
          | fail)
        have hO : Only (w.heap.size + 1) (w3.setCell ⟨w.heap.size, 5, none⟩ (.slice (some ⟨g, 0, none⟩) 1 c2)) ((w3.setCell ⟨w.heap.size, 5, none⟩ (.slice (some ⟨g, 0, none⟩) 1 c2)).setRow (w.heap.size + 1) p.cs.toArray) := Only.row _ _ _
        have hg := HG.out
        exact bodyPost_ret (results_cell_row Tryd.results30 _ _ (w.heap.size + 1) 27 p.cs.toArray (0, 0) _ rfl (HZu.out.row _) Tryd.underlying27 rfl (by kernel_rfl)) rfl ⟨_, rfl, (HM.out.1.only HM.out.2.1 hO (by omega)).up', Tr.From.up HM.out.1 (HM.out.2.1.lower (by omega)), (strip_succ HM.out.1).trans HM.out.2.2, HBu.out.trans (hO.below (by omega))⟩
      · have hl2 : 2 ≤ t.parts.length := by omega
        have e0 : ((t.parts.length : Int) == 0) = false := beq_eq_false_iff_ne.2 (by omega)
        have e1 : ((t.parts.length : Int) == 1) = false := beq_eq_false_iff_ne.2 (by omega)
        have e0n : (t.parts.length == 0) = false := beq_eq_false_iff_ne.2 (by omega)
        have e1n : (t.parts.length == 1) = false := beq_eq_false_iff_ne.2 (by omega)
        rw [hk] at u0
        have HE : Hid (Tr.node t.kind t.set none t.parts.length 0 (t.parts.map (plainP (k + 1))) t.lo t.hi t.neg = plainS (k + 1) t) := Lib.hid (plain_node (by omega) (by omega)).symm
        go_wp2_with (first
          | (with_reducible show wpList _ _ _ ({ dst := _, op := .load 27 _, type := _, pos := _, after := _, guard := _ } :: _) _ _
             refine wpList_load_row rfl 27 _ rfl w.heap.size rfl 27 (Tr.node t.kind t.set A t.parts.length c2 ((List.range t.parts.length).map ps) t.lo t.hi t.neg).cs.toArray (0, 0) _ HAu.out Tryd.underlying27 rfl (by kernel_rfl) ?_)
          | (with_reducible show wpList _ _ _ ({ dst := none, op := .store 27 _ _, type := _, pos := _, after := _, guard := _ } :: _) _ _
             refine wpList_store_row rfl 27 _ _ rfl (w.heap.size + 1) (Tr.node t.kind t.set A t.parts.length c2 ((List.range t.parts.length).map ps) t.lo t.hi t.neg).cs.toArray rfl rfl 27 Tr.blank.cs.toArray HZu.out (by kernel_rfl) rfl hone ?_)
          | fail)
        have hO : Only (w.heap.size + 1) (w3.setCell ⟨w.heap.size, 5, none⟩ (.slice A t.parts.length c2)) ((w3.setCell ⟨w.heap.size, 5, none⟩ (.slice A t.parts.length c2)).setRow (w.heap.size + 1) (Tr.node t.kind t.set A t.parts.length c2 ((List.range t.parts.length).map ps) t.lo t.hi t.neg).cs.toArray) := Only.row _ _ _
        obtain ⟨m1, m2, m3⟩ := made_in (S := plainP) (c := c2) (lo := t.lo) (hi := t.hi) (neg := t.neg) (kd := t.kind) HI.out.1.1 HI.out.1.2.1 HI.out.1.2.2.1 HI.out.1.2.2.2 (by rfl) HSl.out.1 (HRu.out.only hO (by omega))
        exact bodyPost_ret (results_cell_row Tryd.results30 _ _ (w.heap.size + 1) 27 (Tr.node t.kind t.set A t.parts.length c2 ((List.range t.parts.length).map ps) t.lo t.hi t.neg).cs.toArray (0, 0) _ rfl (HZu.out.row _) Tryd.underlying27 rfl (by kernel_rfl)) rfl ⟨_, rfl, m1, m2.lower (by omega), m3.trans HE.out, HBu.out.trans (hO.below (by omega))⟩
  by_cases hk : t.kind = 5
  · by_cases hl0 : t.parts.length = 0
    · have HE : Hid ((if (5 : Int) = 3 then leafP 1 else if (5 : Int) = 5 then allP else leafP 2) = plainS (k + 1) t) := Lib.hid (by rw [plain_and hk hl0]; rfl)
      rw [hk] at u0
      rw [hl0]
      rw [hl0] at u0 u5 HZu HBu HSu HAu HRu
      go_wp2_with fail
      refine (plainOfNone 5 (by decide) k _).mono ?_
      rintro e w5 ⟨t2, rfl, hi2, hf2, hs2, hb5⟩
      have HZ5 := Lib.hid (HZu.out.below hb5 HZu.out.lt)
      have HB5 := Lib.hid (HBu.out.trans (hb5.mono HBu.out.size))
      have HI2 := Lib.hid hi2
      have HF2 := Lib.hid (hf2.lower (show w.heap.size + 2 ≤ (w3.setCell ⟨w.heap.size, 5, none⟩ (.slice A 0 c2)).heap.size from HSu.out))
      have HS2 := Lib.hid (hs2.trans HE.out)
      have hone2 := Tr.one t2
      clear hb5 hi2 hf2 hs2
      go_wp2_with (first
        | (with_reducible show wpList _ _ _ ({ dst := none, op := .store 27 _ _, type := _, pos := _, after := _, guard := _ } :: _) _ _
           refine wpList_store_row rfl 27 _ _ rfl (w.heap.size + 1) t2.cs.toArray rfl rfl 27 Tr.blank.cs.toArray HZ5.out (by kernel_rfl) rfl hone2 ?_)
        | fail)
      have hO : Only (w.heap.size + 1) w5 (w5.setRow (w.heap.size + 1) t2.cs.toArray) := Only.row _ _ _
      exact bodyPost_ret (results_cell_row Tryd.results30 _ _ (w.heap.size + 1) 27 t2.cs.toArray (0, 0) _ rfl (HZ5.out.row _) Tryd.underlying27 rfl (by kernel_rfl)) rfl ⟨_, rfl, HI2.out.only HF2.out hO (by omega), HF2.out.lower (by omega), HS2.out, HB5.out.trans (hO.below (by omega))⟩
    · by_cases hl1 : t.parts.length = 1
      · obtain ⟨g, ha, hg1, hg2, hrow, hps⟩ := HRu.out (by omega)
        obtain ⟨m1, m2, m3⟩ := hps 0 (by omega)
        have HRg := Lib.hid (hrow.at_ 0 (by omega))
        rw [Nat.zero_mul] at HRg
        have HE : Hid (plainP (k + 1) (t.parts[0]'(by omega)) = plainS (k + 1) t) := Lib.hid (plain_one (by omega) hl1).symm
        have HM : Hid (Tr.In (w3.setCell ⟨w.heap.size, 5, none⟩ (.slice A t.parts.length c2)) (k + 1) (ps 0) ∧ Tr.From (g + 1) (k + 1) (ps 0) ∧ (ps 0).strip (k + 1) = plainS (k + 1) t) := Lib.hid ⟨m1, m2, m3.trans HE.out⟩
        have HG : Hid (w.heap.size + 2 ≤ g) := Lib.hid hg1
        obtain ⟨p, hp⟩ : ∃ p, ps 0 = p := ⟨_, rfl⟩
        rw [hp] at HRg HM
        have hone2 := Tr.one p
        rw [hk] at u0
        rw [ha, hl1] at u0 u5
        rw [ha, hl1]
        rw [ha, hl1] at HZu HBu HM HRg HSu
        clear hg1 hg2 hrow hps m1 m2 m3 hp HAu HRu
        go_wp2_with (first
          | (with_reducible show wpList _ _ _ ({ dst := _, op := .load 27 _, type := _, pos := _, after := _, guard := _ } :: _) _ _
             refine wpList_load_mid rfl 27 _ rfl g 0 rfl p.cs _ HRg.out Tryd.underlying27 rfl (by rw [Tr.cs_length]; kernel_rfl) ?_)
          | (with_reducible show wpList _ _ _ ({ dst := none, op := .store 27 _ _, type := _, pos := _, after := _, guard := _ } :: _) _ _
             refine wpList_store_row rfl 27 _ _ rfl (w.heap.size + 1) p.cs.toArray rfl rfl 27 Tr.blank.cs.toArray HZu.out (by kernel_rfl) rfl hone2 ?_)
          | fail)
        have hO : Only (w.heap.size + 1) (w3.setCell ⟨w.heap.size, 5, none⟩ (.slice (some ⟨g, 0, none⟩) 1 c2)) ((w3.setCell ⟨w.heap.size, 5, none⟩ (.slice (some ⟨g, 0, none⟩) 1 c2)).setRow (w.heap.size + 1) p.cs.toArray) := Only.row _ _ _
        have hg := HG.out
        exact bodyPost_ret (results_cell_row Tryd.results30 _ _ (w.heap.size + 1) 27 p.cs.toArray (0, 0) _ rfl (HZu.out.row _) Tryd.underlying27 rfl (by kernel_rfl)) rfl ⟨_, rfl, (HM.out.1.only HM.out.2.1 hO (by omega)).up', Tr.From.up HM.out.1 (HM.out.2.1.lower (by omega)), (strip_succ HM.out.1).trans HM.out.2.2, HBu.out.trans (hO.below (by omega))⟩
      · have hl2 : 2 ≤ t.parts.length := by omega
        have e0 : ((t.parts.length : Int) == 0) = false := beq_eq_false_iff_ne.2 (by omega)
        have e1 : ((t.parts.length : Int) == 1) = false := beq_eq_false_iff_ne.2 (by omega)
        have e0n : (t.parts.length == 0) = false := beq_eq_false_iff_ne.2 (by omega)
        have e1n : (t.parts.length == 1) = false := beq_eq_false_iff_ne.2 (by omega)
        rw [hk] at u0
        have HE : Hid (Tr.node t.kind t.set none t.parts.length 0 (t.parts.map (plainP (k + 1))) t.lo t.hi t.neg = plainS (k + 1) t) := Lib.hid (plain_node (by omega) (by omega)).symm
        go_wp2_with (first
          | (with_reducible show wpList _ _ _ ({ dst := _, op := .load 27 _, type := _, pos := _, after := _, guard := _ } :: _) _ _
             refine wpList_load_row rfl 27 _ rfl w.heap.size rfl 27 (Tr.node t.kind t.set A t.parts.length c2 ((List.range t.parts.length).map ps) t.lo t.hi t.neg).cs.toArray (0, 0) _ HAu.out Tryd.underlying27 rfl (by kernel_rfl) ?_)
          | (with_reducible show wpList _ _ _ ({ dst := none, op := .store 27 _ _, type := _, pos := _, after := _, guard := _ } :: _) _ _
             refine wpList_store_row rfl 27 _ _ rfl (w.heap.size + 1) (Tr.node t.kind t.set A t.parts.length c2 ((List.range t.parts.length).map ps) t.lo t.hi t.neg).cs.toArray rfl rfl 27 Tr.blank.cs.toArray HZu.out (by kernel_rfl) rfl hone ?_)
          | fail)
        have hO : Only (w.heap.size + 1) (w3.setCell ⟨w.heap.size, 5, none⟩ (.slice A t.parts.length c2)) ((w3.setCell ⟨w.heap.size, 5, none⟩ (.slice A t.parts.length c2)).setRow (w.heap.size + 1) (Tr.node t.kind t.set A t.parts.length c2 ((List.range t.parts.length).map ps) t.lo t.hi t.neg).cs.toArray) := Only.row _ _ _
        obtain ⟨m1, m2, m3⟩ := made_in (S := plainP) (c := c2) (lo := t.lo) (hi := t.hi) (neg := t.neg) (kd := t.kind) HI.out.1.1 HI.out.1.2.1 HI.out.1.2.2.1 HI.out.1.2.2.2 (by rfl) HSl.out.1 (HRu.out.only hO (by omega))
        exact bodyPost_ret (results_cell_row Tryd.results30 _ _ (w.heap.size + 1) 27 (Tr.node t.kind t.set A t.parts.length c2 ((List.range t.parts.length).map ps) t.lo t.hi t.neg).cs.toArray (0, 0) _ rfl (HZu.out.row _) Tryd.underlying27 rfl (by kernel_rfl)) rfl ⟨_, rfl, m1, m2.lower (by omega), m3.trans HE.out, HBu.out.trans (hO.below (by omega))⟩
  have k0 := (int_ne (show ¬ t.kind = 0 by omega)).1
  have k3 := (int_ne (show ¬ t.kind = 3 by omega)).1
  have k4 := (int_ne (show ¬ t.kind = 4 by omega)).1
  have k5 := (int_ne (show ¬ t.kind = 5 by omega)).1
  have HE : Hid (Tr.node t.kind t.set none t.parts.length 0 (t.parts.map (plainP (k + 1))) t.lo t.hi t.neg = plainS (k + 1) t) := Lib.hid (plain_node (by omega) (by omega)).symm
  go_wp2_with (first
    | (with_reducible show wpList _ _ _ ({ dst := _, op := .load 27 _, type := _, pos := _, after := _, guard := _ } :: _) _ _
       refine wpList_load_row rfl 27 _ rfl w.heap.size rfl 27 (Tr.node t.kind t.set A t.parts.length c2 ((List.range t.parts.length).map ps) t.lo t.hi t.neg).cs.toArray (0, 0) _ HAu.out Tryd.underlying27 rfl (by kernel_rfl) ?_)
    | (with_reducible show wpList _ _ _ ({ dst := none, op := .store 27 _ _, type := _, pos := _, after := _, guard := _ } :: _) _ _
       refine wpList_store_row rfl 27 _ _ rfl (w.heap.size + 1) (Tr.node t.kind t.set A t.parts.length c2 ((List.range t.parts.length).map ps) t.lo t.hi t.neg).cs.toArray rfl rfl 27 Tr.blank.cs.toArray HZu.out (by kernel_rfl) rfl hone ?_)
    | fail)
  have hO : Only (w.heap.size + 1) (w3.setCell ⟨w.heap.size, 5, none⟩ (.slice A t.parts.length c2)) ((w3.setCell ⟨w.heap.size, 5, none⟩ (.slice A t.parts.length c2)).setRow (w.heap.size + 1) (Tr.node t.kind t.set A t.parts.length c2 ((List.range t.parts.length).map ps) t.lo t.hi t.neg).cs.toArray) := Only.row _ _ _
  obtain ⟨m1, m2, m3⟩ := made_in (S := plainP) (c := c2) (lo := t.lo) (hi := t.hi) (neg := t.neg) (kd := t.kind) HI.out.1.1 HI.out.1.2.1 HI.out.1.2.2.1 HI.out.1.2.2.2 (by rfl) HSl.out.1 (HRu.out.only hO (by omega))
  exact bodyPost_ret (results_cell_row Tryd.results30 _ _ (w.heap.size + 1) 27 (Tr.node t.kind t.set A t.parts.length c2 ((List.range t.parts.length).map ps) t.lo t.hi t.neg).cs.toArray (0, 0) _ rfl (HZu.out.row _) Tryd.underlying27 rfl (by kernel_rfl)) rfl ⟨_, rfl, m1, m2.lower (by omega), m3.trans HE.out, HBu.out.trans (hO.below (by omega))⟩

theorem treePlainAt : ∀ k, MakesPlain 30 k
  | 0 => fun _ _ h => h.elim
  | k + 1 => fun t w h hs => treePlain_step k (treePlainAt k) t w h hs

end Go.Proofs.YtibmcdgnponpmaaDoor
