/- The reference's Plain, of whatever pattern of few parts. -/
import Derived.Test.YtibmcdgnponpmaaDoorProg
import Derived.Test.YtibmcdgnponpmaaDoorTreeKit
import Derived.Test.YtibmcdgnponpmaaDoorPlainS
import Derived.Deep.DeepCutAuto
namespace Go.Proofs.YtibmcdgnponpmaaDoor
open Go.RowKit
set_option linter.unusedSimpArgs false
set_option linter.unusedVariables false

/-- What such a function answers: a plain pattern of its own. -/
def MadePlain (k : Nat) (t : Tr) (w : World) (e : Ending) (w' : World) : Prop := ∃ t2 : Tr, e = .returned (.agg t2.cs.toArray) ∧ Tr.In w' (k + 1) t2 ∧ Tr.From w.heap.size (k + 1) t2 ∧ t2.strip (k + 1) = plainS k t ∧ Below w.heap.size w w'
def MakesPlain (F : Nat) (k : Nat) : Prop := ∀ (t : Tr) (w : World), Tr.In w k t → slimS k t → Calls Tryd.prog F #[.agg t.cs.toArray] w (MadePlain k t w)
theorem built_leaf2 : Tryd.prog.built 27 [(0, .int .i64 2)] = some (leafP 2).cs.toArray := by kernel_rfl
theorem built_leaf1 : Tryd.prog.built 27 [(0, .int .i64 1)] = some (leafP 1).cs.toArray := by kernel_rfl

/-- What a node without parts is, wherever it lies. -/
theorem leafP_in (w : World) (k : Nat) {kd : Int} (h : I64 kd) : Tr.In w (k + 1) (leafP kd) :=
  ⟨⟨⟨by show (0 : Nat) < _; decide, by show (0 : Nat) < _; decide, by show (0 : Nat) < _; decide, by show (0 : Nat) < _; decide⟩, h, by show I64 0; unfold I64; omega, by show I64 0; unfold I64; omega⟩, ⟨rfl, Nat.zero_le _⟩, fun h0 => absurd h0 (Nat.lt_irrefl 0), fun j hj => absurd hj (Nat.not_lt_zero _)⟩
theorem leafP_from (b k : Nat) (kd : Int) : Tr.From b (k + 1) (leafP kd) := ⟨fun h0 => absurd h0 (Nat.lt_irrefl 0), fun p hp => absurd hp List.not_mem_nil⟩
/-- A plain And of none, as it lies. -/
def allQ (g : Nat) : Tr := .node 6 ⟨0, 0, 0, 0⟩ (some ⟨g, 0, none⟩) 1 1 [leafP 2] 0 0 false
theorem allQ_in {w : World} {g k : Nat} (h : At w g 27 (leafP 2).cs.toArray) : Tr.In w (k + 1 + 1) (allQ g) := by
  refine ⟨⟨⟨by show (0 : Nat) < _; decide, by show (0 : Nat) < _; decide, by show (0 : Nat) < _; decide, by show (0 : Nat) < _; decide⟩, by show I64 6; unfold I64; omega, by show I64 0; unfold I64; omega, by show I64 0; unfold I64; omega⟩, ⟨rfl, by show 1 ≤ _; decide⟩, fun _ => ⟨g, 0, rfl, h.lt, fun j hj i v hv => ?_⟩, fun j hj => ?_⟩
  · have hj' : j < 1 := hj
    obtain rfl : j = 0 := by omega
    rw [Nat.zero_mul, Nat.zero_add, h.cell, List.getElem?_toArray]
    exact hv
  · have hj' : j < 1 := hj
    obtain rfl : j = 0 := by omega
    exact leafP_in w k (by unfold I64; omega)
theorem allQ_from {g b k : Nat} (h : b ≤ g) : Tr.From b (k + 1 + 1) (allQ g) := ⟨fun _ b' off e => by
    have e' : (some ⟨g, 0, none⟩ : Option Addr) = some ⟨b', off, none⟩ := e
    injection e' with e'
    injection e' with e1
    omega, fun p hp => by
    obtain rfl : p = leafP 2 := by simpa [allQ, Tr.parts] using hp
    exact leafP_from b k 2⟩
theorem built_all (g : Nat) : Tryd.prog.built 27 [(0, .int .i64 6), (2, .slice (some ⟨g, 0, none⟩) 1 1)] = some (allQ g).cs.toArray := by kernel_rfl
def plainP (m : Nat) (t : Tr) : Tr := plainS (m - 1) t
theorem ownP_one {w : World} {base k c : Nat} {A : Option Addr} {p : Tr} (h : PartsOf w base (.slice A 1 c) [p] k) : ∃ g, A = some ⟨g, 0, none⟩ ∧ base ≤ g ∧ g < w.heap.size ∧ w.rangeAt g 0 p.cs := by
  obtain ⟨g, cap, e, hb, hlt⟩ := World.ownsRow.form h.own (by simp)
  injection e with e1 e2 e3
  subst e1; subst e3
  refine ⟨g, rfl, hb, hlt, fun j v hv => ?_⟩
  have hj : j < 9 := by have := (List.getElem?_eq_some_iff.1 hv).1; rwa [Tr.cs_length] at this
  rw [Nat.zero_add, World.ownsRow.cellAt h.own j (by simp; omega)]
  simpa using hv
theorem Tr.From.up {w : World} {b : Nat} : ∀ {k : Nat} {t : Tr}, Tr.In w k t → Tr.From b k t → Tr.From b (k + 1) t
  | 0, _, h, _ => h.elim
  | k + 1, t, h, o => ⟨o.1, fun p hp => by
      obtain ⟨j, hj, rfl⟩ := List.getElem_of_mem hp
      exact Tr.From.up (h.2.2.2 j hj) (o.2 _ hp)⟩
theorem strip_succ {w : World} : ∀ {k : Nat} {t : Tr}, Tr.In w k t → t.strip (k + 1) = t.strip k
  | 0, _, h => h.elim
  | k + 1, t, h => by
    show Tr.node t.kind t.set none t.parts.length 0 (t.parts.map (Tr.strip (k + 1))) t.lo t.hi t.neg = Tr.node t.kind t.set none t.parts.length 0 (t.parts.map (Tr.strip k)) t.lo t.hi t.neg
    congr 1
    apply List.map_congr_left
    intro p hp
    obtain ⟨j, hj, rfl⟩ := List.getElem_of_mem hp
    exact strip_succ (h.2.2.2 j hj)
theorem Tr.In.up' {w : World} {k : Nat} {t : Tr} (h : Tr.In w k t) : Tr.In w (k + 1) t := Tr.In.up k t h
/-- A block that is new is turned. -/
theorem PartsOf.grown_at {w0 w w' : World} {base k g : Nat} {v : Value} {L : List Tr} (h : PartsOf w base v L k) (hg : w.grownBy w' (some g)) (hs : w0.heap.size ≤ g) (h0 : PartsOf w0 base v L k) (_ : w0.heap.size ≤ g) : PartsOf w' base v L k :=
  ⟨World.ownsRow.kept (row := some g) h.own hg (by
    cases hv : v.ownBlock with
    | none => exact Or.inl rfl
    | some b => right; intro e; injection e with e; have := (h0.own.lt b hv).2; omega), fun p hp => ⟨Tr.In.grown hg k p (fun b e => by cases e; exact Tr.Off.new hs k p (h0.ins p hp).1) (h.ins p hp).1, (h.ins p hp).2⟩⟩

set_option maxRecDepth 100000 in
set_option maxHeartbeats 8000000 in
theorem refPlain_step (k : Nat) (ih : MakesPlain 9 k) (t : Tr) (w : World) (h : Tr.In w (k + 1) t) (hs : slimS (k + 1) t) :
    Calls Tryd.prog 9 #[.agg t.cs.toArray] w (MadePlain (k + 1) t w) := by
  have hn := h.2.1.1
  have HN := Lib.hid hn
  have HI := Lib.hid h
  have HIH := Lib.hid ih
  have HSl := Lib.hid hs
  have hp2000 : t.parts.length ≤ 2000 := hs.1
  obtain ⟨i0, hi0, hz0, hz1, hz2⟩ := info_parts info_re
  have hA0 : At ((w.alloc (.cells t.cs.toArray 27)).alloc (.cells #[.int .i64 0, .int .u64 0, .int .u64 0, .int .u64 0, .int .u64 0, .slice none 0 0, .int .i64 0, .int .i64 0, .bool false] 27)) w.heap.size 27 t.cs.toArray := (At.new _ _ _).alloc _
  have HA0 := Lib.hid hA0
  have HZ0 : Hid (At ((w.alloc (.cells t.cs.toArray 27)).alloc (.cells #[.int .i64 0, .int .u64 0, .int .u64 0, .int .u64 0, .int .u64 0, .slice none 0 0, .int .i64 0, .int .i64 0, .bool false] 27)) (w.heap.size + 1) 27 Tr.blank.cs.toArray) := Lib.hid (at_new' (w.alloc (.cells t.cs.toArray 27)) (w.heap.size + 1) 27 (cs := Tr.blank.cs.toArray) (by simp))
  have HB0 : Hid (Below w.heap.size w ((w.alloc (.cells t.cs.toArray 27)).alloc (.cells #[.int .i64 0, .int .u64 0, .int .u64 0, .int .u64 0, .int .u64 0, .slice none 0 0, .int .i64 0, .int .i64 0, .bool false] 27))) := Lib.hid (below_two _ _)
  have c5 := (At.tr_cell hA0).2.1
  rw [hn] at c5
  clear h hs ih hn hA0
  go_enter Tryd.func9, Tryd.ntmps9
  go_wp2_with fail
  clear c5
  go_loopw [3, 10] (fun l i wr => ∃ (j : Nat) (L : List Tr) (v : Value), j ≤ t.parts.length ∧ i = .int .i64 j ∧ l = v ∧ L.length = j ∧ Hid (L.map (Tr.strip (k + 1)) = (t.parts.take j).map (plainS k)) ∧ Hid (PartsOf wr (w.heap.size + 2) v L (k + 1)) ∧ Hid (At wr w.heap.size 27 t.cs.toArray) ∧ Hid (At wr (w.heap.size + 1) 27 Tr.blank.cs.toArray) ∧ Hid (Below w.heap.size w wr) ∧ Hid (w.heap.size + 2 ≤ wr.heap.size)) (fun _ i _ => t.parts.length - (intOf i).toNat)
  case atStart => exact ⟨0, [], .slice none 0 0, Nat.zero_le _, rfl, rfl, rfl, Lib.hid (by simp), Lib.hid (PartsOf.nil _ _ _), HA0, HZ0, HB0, Lib.hid (by simp)⟩
  case round =>
    clear HA0 HZ0 HB0
    obtain ⟨j, L, v, hj, rfl, hv, hLj, HO, HP, HA, HZ, HB, HS⟩ := hrel
    replace hv := hv.symm
    subst hv
    by_cases hlt : j < t.parts.length
    · have c5 := (At.tr_cell HA.out).2.1
      obtain ⟨b, off, ha, hb, hr⟩ := HI.out.2.2.1 (by rw [HN.out]; omega)
      have HR := Lib.hid (range_below (hr j hlt) hb (Nat.le_refl _) HB.out)
      have HQ := Lib.hid (Tr.In.next (HI.out.2.2.2 j hlt) HB.out)
      have HSj := Lib.hid (HSl.out.2 _ (List.getElem_mem hlt))
      clear hr hb
      rw [ha, HN.out] at c5
      clear ha
      have HLj := Lib.hid hLj
      clear hLj
      have hjz : (0 : Int) ≤ (j : Int) := by omega
      have hjn : (j : Int) < (t.parts.length : Int) := by omega
      go_wp2_with (first
        | (with_reducible show wpList _ _ _ ({ dst := _, op := .load 27 _, type := _, pos := _, after := _, guard := _ } :: _) _ _
           refine wpList_load_mid rfl 27 _ rfl b (off + j * 9) rfl t.parts[j].cs _ HR.out Tryd.underlying27 rfl (by rw [Tr.cs_length]; kernel_rfl) ?_)
        | fail)
      refine (HIH.out t.parts[j] _ HQ.out HSj.out).mono ?_
      rintro e w5 ⟨p, rfl, hin, hfr, hst, hb5⟩
      have hsz := hb5.size
      have HA5 := Lib.hid (HA.out.below hb5 HA.out.lt)
      have HZ5 := Lib.hid (HZ.out.below hb5 HZ.out.lt)
      have HB5 := Lib.hid (HB.out.trans (hb5.mono HB.out.size))
      have HP5 := Lib.hid (HP.out.next hb5)
      have HS5 : Hid (w.heap.size + 2 ≤ w5.heap.size) := Lib.hid (by have := HS.out; omega)
      have HFr := Lib.hid (hfr.lower HS.out)
      have HOf : Hid (∀ g, v.ownBlock = some g → Tr.Off g (k + 1) p) := Lib.hid (fun g hg => Tr.Off.from (HP.out.own.lt g hg).2 (k + 1) p hfr)
      have HSt := Lib.hid hst
      have HIn := Lib.hid hin
      have honep := Tr.one p
      clear hb5 hin hfr hst c5 hsz
      obtain ⟨gb, hgb⟩ : ∃ gb, gb = w5.heap.size := ⟨_, rfl⟩
      obtain ⟨w7, hw7⟩ : ∃ w7, w7 = w5.alloc (.cells p.cs.toArray 27) := ⟨_, rfl⟩
      have HW7 := Lib.hid hw7
      have HGb := Lib.hid hgb
      have hB7 : Below w5.heap.size w5 w7 := by rw [hw7]; exact (Below.refl _ _).alloc (Nat.le_refl _) _
      have hs7 : w7.heap.size = gb + 1 := by rw [hw7, hgb]; simp
      have HA7 := Lib.hid (HA5.out.below hB7 HA5.out.lt)
      have HZ7 := Lib.hid (HZ5.out.below hB7 HZ5.out.lt)
      have HB7 := Lib.hid (HB5.out.trans (hB7.mono HB5.out.size))
      have HP7 := Lib.hid (HP5.out.next hB7)
      have HIn7 := Lib.hid (HIn.out.next hB7)
      have HAt7 : Hid (At w7 gb 27 p.cs.toArray) := Lib.hid (by rw [hw7, hgb]; exact At.new _ _ _)
      have HS7 := Lib.hid hs7
      have hgbs : w.heap.size + 1 < gb := by have := HS5.out; omega
      have HG := Lib.hid hgbs
      have hLle : L.length < 2000 := by have := HLj.out; omega
      clear hB7 hs7 hw7 hgb hgbs
      go_wp2_with (first
        | (with_reducible show wpList _ _ _ ({ dst := _, op := .buildSlice _ _ _, type := _, pos := _, after := _, guard := _ } :: _) _ _
           refine wpList_slice_tr rfl _ p rfl rfl ?_
           rw [← HW7.out, ← HGb.out])
        | (at_builtin
           refine wpList_append_lies _ rfl _ _ _ rfl (w.heap.size + 2) 27 i0 _ 9 88 Tryd.underlying25 hi0 hz0 hz1 hz2 rfl (by omega) v L.length _ rfl HP7.out.own ⟨gb, 0, none⟩ 1 1 p.cs rfl rfl ?c1 ?c2 ?c6 ?c3 ?c4 ?c5 _ rfl ?_
           case c1 => exact fun i u hu => by rw [Addr.add_mid, Nat.zero_add]; exact (HAt7.out.cell i).trans (by simpa using hu)
           case c2 => exact fun u hu => by have := honep; rw [Array.all_eq_true_iff_forall_mem] at this; exact this u (by simpa using hu)
           case c6 => omega
           case c3 => unfold maxLen; omega
           case c4 => omega
           case c5 => rw [HS7.out]; have := HG.out; omega
           intro g cap w8 hown8 hg8 hat8 hlt8)
        | fail)
      have hpu := PartsOf.push HP7.out HIn7.out HFr.out HOf.out hown8 hg8 hat8 (Nat.le_refl _)
      have hrow : ∀ b, v.ownBlock = some b → w.heap.size + 2 ≤ b := fun b hb => (HP7.out.own.lt b hb).1
      refine ⟨⟨j + 1, L ++ [p], .slice (some ⟨g, 0, none⟩) (L.length + 1) cap, by omega, by go_num, rfl, by rw [List.length_append, HLj.out]; rfl, Lib.hid ?_, Lib.hid hpu, Lib.hid ?_, Lib.hid ?_, Lib.hid ?_, Lib.hid ?_⟩, by simp [intOf]; omega⟩
      · rw [List.map_append, HO.out, List.take_succ_eq_append_getElem hlt, List.map_append, List.map_singleton, List.map_singleton, HSt.out]
      · exact At.grown' HA7.out hg8 (fun e => by have := hrow _ e.symm; omega)
      · exact At.grown' HZ7.out hg8 (fun e => by have := hrow _ e.symm; omega)
      · exact below_grown' HB7.out HB7.out.size hg8 (fun b hb => by have := hrow _ hb; omega)
      · have := hg8.size; have := HS7.out; have := HG.out; omega
    · obtain rfl : j = t.parts.length := by omega
      have hv0 := True.intro
      by_cases hk : t.kind = 0
      · obtain ⟨A, c, hv, _⟩ := HP.out.form
        replace hv : v = .slice A L.length c := hv
        subst hv
        have HE : Hid (leafP 2 = plainS (k + 1) t) := Lib.hid (plain_none hk).symm
        have hone2 := Tr.one (leafP 2)
        have HZn := HZ
        have c0 := (At.tr_cell HA.out).1
        rw [hk] at c0
        skip
        clear hLj HO HP hv0
        go_wp2_with (first
          | (with_reducible show wpList _ _ _ ({ dst := _, op := .build _ _, type := _, pos := _, after := _, guard := _ } :: _) _ _
             refine wpList_build_as rfl 27 _ rfl (leafP 2).cs.toArray built_leaf2 ?_)
          | (with_reducible show wpList _ _ _ ({ dst := none, op := .store 27 _ _, type := _, pos := _, after := _, guard := _ } :: _) _ _
             refine wpList_store_row rfl 27 _ _ rfl (w.heap.size + 1) (leafP 2).cs.toArray rfl rfl 27 Tr.blank.cs.toArray HZn.out (by kernel_rfl) rfl hone2 ?_)
          | fail)
        have hO : Only (w.heap.size + 1) wr (wr.setRow (w.heap.size + 1) (leafP 2).cs.toArray) := Only.row _ _ _
        exact bodyPost_ret (results_cell_row Tryd.results9 _ _ (w.heap.size + 1) 27 (leafP 2).cs.toArray (0, 0) _ rfl (HZn.out.row _) Tryd.underlying27 rfl (by kernel_rfl)) rfl ⟨_, rfl, leafP_in _ _ (by unfold I64; omega), leafP_from _ _ _, HE.out, HB.out.trans (hO.below (by omega))⟩
      by_cases hk : t.kind = 3
      · by_cases hl0 : t.parts.length = 0
        · have hL0 : L.length = 0 := by omega
          have HL0 := Lib.hid hL0
          obtain ⟨A, c, hv, _⟩ := HP.out.form
          replace hv : v = .slice A L.length c := hv
          subst hv
          have HE : Hid (leafP 1 = plainS (k + 1) t) := Lib.hid (plain_cat hk hl0).symm
          have hone2 := Tr.one (leafP 1)
          have HZn := HZ
          have c0 := (At.tr_cell HA.out).1
          rw [hk] at c0
          rw [hL0]
          clear hLj HO HP hv0
          go_wp2_with (first
            | (with_reducible show wpList _ _ _ ({ dst := _, op := .build _ _, type := _, pos := _, after := _, guard := _ } :: _) _ _
               refine wpList_build_as rfl 27 _ rfl (leafP 1).cs.toArray built_leaf1 ?_)
            | (with_reducible show wpList _ _ _ ({ dst := none, op := .store 27 _ _, type := _, pos := _, after := _, guard := _ } :: _) _ _
               refine wpList_store_row rfl 27 _ _ rfl (w.heap.size + 1) (leafP 1).cs.toArray rfl rfl 27 Tr.blank.cs.toArray HZn.out (by kernel_rfl) rfl hone2 ?_)
            | fail)
          have hO : Only (w.heap.size + 1) wr (wr.setRow (w.heap.size + 1) (leafP 1).cs.toArray) := Only.row _ _ _
          exact bodyPost_ret (results_cell_row Tryd.results9 _ _ (w.heap.size + 1) 27 (leafP 1).cs.toArray (0, 0) _ rfl (HZn.out.row _) Tryd.underlying27 rfl (by kernel_rfl)) rfl ⟨_, rfl, leafP_in _ _ (by unfold I64; omega), leafP_from _ _ _, HE.out, HB.out.trans (hO.below (by omega))⟩
        · by_cases hl1 : t.parts.length = 1
          · have HL1 := Lib.hid hl1
            have hLl : L.length = 1 := by omega
            obtain ⟨p, rfl⟩ : ∃ p, L = [p] := List.length_eq_one_iff.1 hLl
            obtain ⟨A, c, hv, _⟩ := HP.out.form
            replace hv : v = .slice A 1 c := hv
            subst hv
            obtain ⟨g, rfl, hg1, hg2, hr1⟩ := ownP_one HP.out
            have HR1 := Lib.hid hr1
            have HE : Hid (p.strip (k + 1) = plainS (k + 1) t) := Lib.hid (by
              have h1 := HO.out
              rw [List.take_length] at h1
              rw [plain_one (by omega) hl1]
              obtain ⟨a, ha⟩ : ∃ a, t.parts = [a] := List.length_eq_one_iff.1 hl1
              simp only [ha, List.map_cons, List.map_nil, List.cons.injEq, and_true] at h1
              simp only [ha, List.getElem_cons_zero]
              exact h1)
            have HM := Lib.hid (HP.out.ins p (by simp))
            have hone2 := Tr.one p
            have HZn := HZ
            have c0 := (At.tr_cell HA.out).1
            rw [hk] at c0
            clear hr1 hLj hl1 hLl HO HP hv0
            go_wp2_with (first
              | (with_reducible show wpList _ _ _ ({ dst := _, op := .load 27 _, type := _, pos := _, after := _, guard := _ } :: _) _ _
                 refine wpList_load_mid rfl 27 _ rfl g 0 rfl p.cs _ HR1.out Tryd.underlying27 rfl (by rw [Tr.cs_length]; kernel_rfl) ?_)
              | (with_reducible show wpList _ _ _ ({ dst := none, op := .store 27 _ _, type := _, pos := _, after := _, guard := _ } :: _) _ _
                 refine wpList_store_row rfl 27 _ _ rfl (w.heap.size + 1) p.cs.toArray rfl rfl 27 Tr.blank.cs.toArray HZn.out (by kernel_rfl) rfl hone2 ?_)
              | fail)
            have hO : Only (w.heap.size + 1) wr (wr.setRow (w.heap.size + 1) p.cs.toArray) := Only.row _ _ _
            exact bodyPost_ret (results_cell_row Tryd.results9 _ _ (w.heap.size + 1) 27 p.cs.toArray (0, 0) _ rfl (HZn.out.row _) Tryd.underlying27 rfl (by kernel_rfl)) rfl ⟨_, rfl, (HM.out.1.only HM.out.2.1 hO (by omega)).up', Tr.From.up HM.out.1 (HM.out.2.1.lower (by omega)), (strip_succ HM.out.1).trans HE.out, HB.out.trans (hO.below (by omega))⟩
          · have hl2 : 2 ≤ t.parts.length := by omega
            have e0 : ((L.length : Int) == 0) = false := beq_eq_false_iff_ne.2 (by omega)
            have e1 : ((L.length : Int) == 1) = false := beq_eq_false_iff_ne.2 (by omega)
            have e0n : (L.length == 0) = false := beq_eq_false_iff_ne.2 (by omega)
            have e1n : (L.length == 1) = false := beq_eq_false_iff_ne.2 (by omega)
            have HLn : Hid (L.length ≤ 2000) := Lib.hid (by omega)
            obtain ⟨A, c, hv, _⟩ := HP.out.form
            replace hv : v = .slice A L.length c := hv
            subst hv
            have HO2 : Hid (L.map (Tr.strip (k + 1)) = t.parts.map (plainP (k + 1))) := Lib.hid (by have h1 := HO.out; rw [List.take_length] at h1; exact h1)
            have HE : Hid (Tr.node t.kind t.set none t.parts.length 0 (t.parts.map (plainP (k + 1))) t.lo t.hi t.neg = plainS (k + 1) t) := Lib.hid (plain_node (by omega) (by omega)).symm
            obtain ⟨g3, hg3⟩ : ∃ g3, g3 = wr.heap.size := ⟨_, rfl⟩
            have HG3 : Hid (w.heap.size + 2 ≤ g3) := Lib.hid (by rw [hg3]; exact HS.out)
            have HGq := Lib.hid hg3
            have hX := boxW_at wr t
            rw [← hg3] at hX
            have q5 := hX.cell 5
            have f5 := hX.free 5
            rw [show t.cs.toArray[5]? = some (.slice t.addr t.n t.cap) from rfl] at q5
            have hO1 : Only g3 (boxW wr t) ((boxW wr t).setCell ⟨g3, 5, none⟩ (.slice A L.length c)) := (Only.refl g3 (boxW wr t)).cell 5 _
            have hbx := boxW_next wr t
            have HAx := Lib.hid (HA.out.below hbx HA.out.lt)
            have HX1 := Lib.hid (hX.set 5 (.slice A L.length c))
            have HZn := Lib.hid (hO1.at (HZ.out.below hbx HZ.out.lt) (by have := HG3.out; omega))
            have HBn := Lib.hid ((HB.out.trans (hbx.mono HB.out.size)).trans (hO1.below (by have := HG3.out; omega)))
            have HPn : Hid (PartsOf ((boxW wr t).setCell ⟨g3, 5, none⟩ (.slice A L.length c)) (w.heap.size + 2) (.slice A L.length c) L (k + 1)) := Lib.hid (PartsOf.grown_at (HP.out.next hbx) hO1.grown (by rw [hg3]; exact Nat.le_refl _) HP.out (by rw [hg3]; exact Nat.le_refl _))
            have hone := Tr.one t
            have hone2 := Tr.one (Tr.node t.kind t.set A L.length c L t.lo t.hi t.neg)
            have c0 := (At.tr_cell HA.out).1
            rw [hk] at c0
            clear hLj HO HP hv0 hX hO1 hbx hg3
            go_wp2_with (first
              | (with_reducible show wpList _ _ _ ({ dst := _, op := .load 27 _, type := _, pos := _, after := _, guard := _ } :: _) _ _
                 first
                 | refine wpList_load_row rfl 27 _ rfl w.heap.size rfl 27 t.cs.toArray (0, 0) _ HA.out Tryd.underlying27 rfl (by kernel_rfl) ?_
                 | refine wpList_load_row rfl 27 _ rfl g3 rfl 27 (Tr.node t.kind t.set A L.length c L t.lo t.hi t.neg).cs.toArray (0, 0) _ HX1.out Tryd.underlying27 rfl (by kernel_rfl) ?_)
              | (with_reducible show wpList _ _ _ ({ dst := none, op := .store 27 _ _, type := _, pos := _, after := _, guard := _ } :: _) _ _
                 first
                 | (refine wpList_store_row rfl 27 _ _ rfl wr.heap.size t.cs.toArray rfl rfl 27 Tr.blank.cs.toArray (At.new _ _ _) (by kernel_rfl) rfl hone ?_
                    first | change wpList _ _ _ _ _ (boxW wr t) | change Exit.then _ _ _ _ (boxW wr t)
                    rw [← HGq.out])
                 | refine wpList_store_row rfl 27 _ _ rfl (w.heap.size + 1) (Tr.node t.kind t.set A L.length c L t.lo t.hi t.neg).cs.toArray rfl rfl 27 Tr.blank.cs.toArray HZn.out (by kernel_rfl) rfl hone2 ?_)
              | fail)
            have hO : Only (w.heap.size + 1) ((boxW wr t).setCell ⟨g3, 5, none⟩ (.slice A L.length c)) (((boxW wr t).setCell ⟨g3, 5, none⟩ (.slice A L.length c)).setRow (w.heap.size + 1) (Tr.node t.kind t.set A L.length c L t.lo t.hi t.neg).cs.toArray) := Only.row _ _ _
            obtain ⟨m1, m2, m3⟩ := listed_in (S := plainP) (parts := t.parts) (kd := t.kind) (lo := t.lo) (hi := t.hi) (neg := t.neg) HI.out.1.1 HI.out.1.2.1 HI.out.1.2.2.1 HI.out.1.2.2.2 HLn.out (HPn.out.only hO (by omega)) HO2.out
            exact bodyPost_ret (results_cell_row Tryd.results9 _ _ (w.heap.size + 1) 27 (Tr.node t.kind t.set A L.length c L t.lo t.hi t.neg).cs.toArray (0, 0) _ rfl (HZn.out.row _) Tryd.underlying27 rfl (by kernel_rfl)) rfl ⟨_, rfl, m1, m2.lower (by omega), m3.trans HE.out, HBn.out.trans (hO.below (by omega))⟩
      by_cases hk : t.kind = 4
      · by_cases hl0 : t.parts.length = 0
        · have hL0 : L.length = 0 := by omega
          have HL0 := Lib.hid hL0
          obtain ⟨A, c, hv, _⟩ := HP.out.form
          replace hv : v = .slice A L.length c := hv
          subst hv
          have HE : Hid (leafP 2 = plainS (k + 1) t) := Lib.hid (plain_or hk hl0).symm
          have hone2 := Tr.one (leafP 2)
          have HZn := HZ
          have c0 := (At.tr_cell HA.out).1
          rw [hk] at c0
          rw [hL0]
          clear hLj HO HP hv0
          go_wp2_with (first
            | (with_reducible show wpList _ _ _ ({ dst := _, op := .build _ _, type := _, pos := _, after := _, guard := _ } :: _) _ _
               refine wpList_build_as rfl 27 _ rfl (leafP 2).cs.toArray built_leaf2 ?_)
            | (with_reducible show wpList _ _ _ ({ dst := none, op := .store 27 _ _, type := _, pos := _, after := _, guard := _ } :: _) _ _
               refine wpList_store_row rfl 27 _ _ rfl (w.heap.size + 1) (leafP 2).cs.toArray rfl rfl 27 Tr.blank.cs.toArray HZn.out (by kernel_rfl) rfl hone2 ?_)
            | fail)
          have hO : Only (w.heap.size + 1) wr (wr.setRow (w.heap.size + 1) (leafP 2).cs.toArray) := Only.row _ _ _
          exact bodyPost_ret (results_cell_row Tryd.results9 _ _ (w.heap.size + 1) 27 (leafP 2).cs.toArray (0, 0) _ rfl (HZn.out.row _) Tryd.underlying27 rfl (by kernel_rfl)) rfl ⟨_, rfl, leafP_in _ _ (by unfold I64; omega), leafP_from _ _ _, HE.out, HB.out.trans (hO.below (by omega))⟩
        · by_cases hl1 : t.parts.length = 1
          · have HL1 := Lib.hid hl1
            have hLl : L.length = 1 := by omega
            obtain ⟨p, rfl⟩ : ∃ p, L = [p] := List.length_eq_one_iff.1 hLl
            obtain ⟨A, c, hv, _⟩ := HP.out.form
            replace hv : v = .slice A 1 c := hv
            subst hv
            obtain ⟨g, rfl, hg1, hg2, hr1⟩ := ownP_one HP.out
            have HR1 := Lib.hid hr1
            have HE : Hid (p.strip (k + 1) = plainS (k + 1) t) := Lib.hid (by
              have h1 := HO.out
              rw [List.take_length] at h1
              rw [plain_one (by omega) hl1]
              obtain ⟨a, ha⟩ : ∃ a, t.parts = [a] := List.length_eq_one_iff.1 hl1
              simp only [ha, List.map_cons, List.map_nil, List.cons.injEq, and_true] at h1
              simp only [ha, List.getElem_cons_zero]
              exact h1)
            have HM := Lib.hid (HP.out.ins p (by simp))
            have hone2 := Tr.one p
            have HZn := HZ
            have c0 := (At.tr_cell HA.out).1
            rw [hk] at c0
            clear hr1 hLj hl1 hLl HO HP hv0
            go_wp2_with (first
              | (with_reducible show wpList _ _ _ ({ dst := _, op := .load 27 _, type := _, pos := _, after := _, guard := _ } :: _) _ _
                 refine wpList_load_mid rfl 27 _ rfl g 0 rfl p.cs _ HR1.out Tryd.underlying27 rfl (by rw [Tr.cs_length]; kernel_rfl) ?_)
              | (with_reducible show wpList _ _ _ ({ dst := none, op := .store 27 _ _, type := _, pos := _, after := _, guard := _ } :: _) _ _
                 refine wpList_store_row rfl 27 _ _ rfl (w.heap.size + 1) p.cs.toArray rfl rfl 27 Tr.blank.cs.toArray HZn.out (by kernel_rfl) rfl hone2 ?_)
              | fail)
            have hO : Only (w.heap.size + 1) wr (wr.setRow (w.heap.size + 1) p.cs.toArray) := Only.row _ _ _
            exact bodyPost_ret (results_cell_row Tryd.results9 _ _ (w.heap.size + 1) 27 p.cs.toArray (0, 0) _ rfl (HZn.out.row _) Tryd.underlying27 rfl (by kernel_rfl)) rfl ⟨_, rfl, (HM.out.1.only HM.out.2.1 hO (by omega)).up', Tr.From.up HM.out.1 (HM.out.2.1.lower (by omega)), (strip_succ HM.out.1).trans HE.out, HB.out.trans (hO.below (by omega))⟩
          · have hl2 : 2 ≤ t.parts.length := by omega
            have e0 : ((L.length : Int) == 0) = false := beq_eq_false_iff_ne.2 (by omega)
            have e1 : ((L.length : Int) == 1) = false := beq_eq_false_iff_ne.2 (by omega)
            have e0n : (L.length == 0) = false := beq_eq_false_iff_ne.2 (by omega)
            have e1n : (L.length == 1) = false := beq_eq_false_iff_ne.2 (by omega)
            have HLn : Hid (L.length ≤ 2000) := Lib.hid (by omega)
            obtain ⟨A, c, hv, _⟩ := HP.out.form
            replace hv : v = .slice A L.length c := hv
            subst hv
            have HO2 : Hid (L.map (Tr.strip (k + 1)) = t.parts.map (plainP (k + 1))) := Lib.hid (by have h1 := HO.out; rw [List.take_length] at h1; exact h1)
            have HE : Hid (Tr.node t.kind t.set none t.parts.length 0 (t.parts.map (plainP (k + 1))) t.lo t.hi t.neg = plainS (k + 1) t) := Lib.hid (plain_node (by omega) (by omega)).symm
            obtain ⟨g3, hg3⟩ : ∃ g3, g3 = wr.heap.size := ⟨_, rfl⟩
            have HG3 : Hid (w.heap.size + 2 ≤ g3) := Lib.hid (by rw [hg3]; exact HS.out)
            have HGq := Lib.hid hg3
            have hX := boxW_at wr t
            rw [← hg3] at hX
            have q5 := hX.cell 5
            have f5 := hX.free 5
            rw [show t.cs.toArray[5]? = some (.slice t.addr t.n t.cap) from rfl] at q5
            have hO1 : Only g3 (boxW wr t) ((boxW wr t).setCell ⟨g3, 5, none⟩ (.slice A L.length c)) := (Only.refl g3 (boxW wr t)).cell 5 _
            have hbx := boxW_next wr t
            have HAx := Lib.hid (HA.out.below hbx HA.out.lt)
            have HX1 := Lib.hid (hX.set 5 (.slice A L.length c))
            have HZn := Lib.hid (hO1.at (HZ.out.below hbx HZ.out.lt) (by have := HG3.out; omega))
            have HBn := Lib.hid ((HB.out.trans (hbx.mono HB.out.size)).trans (hO1.below (by have := HG3.out; omega)))
            have HPn : Hid (PartsOf ((boxW wr t).setCell ⟨g3, 5, none⟩ (.slice A L.length c)) (w.heap.size + 2) (.slice A L.length c) L (k + 1)) := Lib.hid (PartsOf.grown_at (HP.out.next hbx) hO1.grown (by rw [hg3]; exact Nat.le_refl _) HP.out (by rw [hg3]; exact Nat.le_refl _))
            have hone := Tr.one t
            have hone2 := Tr.one (Tr.node t.kind t.set A L.length c L t.lo t.hi t.neg)
            have c0 := (At.tr_cell HA.out).1
            rw [hk] at c0
            clear hLj HO HP hv0 hX hO1 hbx hg3
            go_wp2_with (first
              | (with_reducible show wpList _ _ _ ({ dst := _, op := .load 27 _, type := _, pos := _, after := _, guard := _ } :: _) _ _
                 first
                 | refine wpList_load_row rfl 27 _ rfl w.heap.size rfl 27 t.cs.toArray (0, 0) _ HA.out Tryd.underlying27 rfl (by kernel_rfl) ?_
                 | refine wpList_load_row rfl 27 _ rfl g3 rfl 27 (Tr.node t.kind t.set A L.length c L t.lo t.hi t.neg).cs.toArray (0, 0) _ HX1.out Tryd.underlying27 rfl (by kernel_rfl) ?_)
              | (with_reducible show wpList _ _ _ ({ dst := none, op := .store 27 _ _, type := _, pos := _, after := _, guard := _ } :: _) _ _
                 first
                 | (refine wpList_store_row rfl 27 _ _ rfl wr.heap.size t.cs.toArray rfl rfl 27 Tr.blank.cs.toArray (At.new _ _ _) (by kernel_rfl) rfl hone ?_
                    first | change wpList _ _ _ _ _ (boxW wr t) | change Exit.then _ _ _ _ (boxW wr t)
                    rw [← HGq.out])
                 | refine wpList_store_row rfl 27 _ _ rfl (w.heap.size + 1) (Tr.node t.kind t.set A L.length c L t.lo t.hi t.neg).cs.toArray rfl rfl 27 Tr.blank.cs.toArray HZn.out (by kernel_rfl) rfl hone2 ?_)
              | fail)
            have hO : Only (w.heap.size + 1) ((boxW wr t).setCell ⟨g3, 5, none⟩ (.slice A L.length c)) (((boxW wr t).setCell ⟨g3, 5, none⟩ (.slice A L.length c)).setRow (w.heap.size + 1) (Tr.node t.kind t.set A L.length c L t.lo t.hi t.neg).cs.toArray) := Only.row _ _ _
            obtain ⟨m1, m2, m3⟩ := listed_in (S := plainP) (parts := t.parts) (kd := t.kind) (lo := t.lo) (hi := t.hi) (neg := t.neg) HI.out.1.1 HI.out.1.2.1 HI.out.1.2.2.1 HI.out.1.2.2.2 HLn.out (HPn.out.only hO (by omega)) HO2.out
            exact bodyPost_ret (results_cell_row Tryd.results9 _ _ (w.heap.size + 1) 27 (Tr.node t.kind t.set A L.length c L t.lo t.hi t.neg).cs.toArray (0, 0) _ rfl (HZn.out.row _) Tryd.underlying27 rfl (by kernel_rfl)) rfl ⟨_, rfl, m1, m2.lower (by omega), m3.trans HE.out, HBn.out.trans (hO.below (by omega))⟩
      by_cases hk : t.kind = 5
      · by_cases hl0 : t.parts.length = 0
        · have hL0 : L.length = 0 := by omega
          have HL0 := Lib.hid hL0
          obtain ⟨A, c, hv, _⟩ := HP.out.form
          replace hv : v = .slice A L.length c := hv
          subst hv
          have HE : Hid (allP = plainS (k + 1) t) := Lib.hid (plain_and hk hl0).symm
          obtain ⟨gb, hgb⟩ : ∃ gb, gb = wr.heap.size := ⟨_, rfl⟩
          obtain ⟨w7, hw7⟩ : ∃ w7, w7 = wr.alloc (.cells (leafP 2).cs.toArray 27) := ⟨_, rfl⟩
          have HW7 := Lib.hid hw7
          have HGb := Lib.hid hgb
          have hB7 : Below wr.heap.size wr w7 := by rw [hw7]; exact (Below.refl _ _).alloc (Nat.le_refl _) _
          have HAt7 : Hid (At w7 gb 27 (leafP 2).cs.toArray) := Lib.hid (by rw [hw7, hgb]; exact At.new _ _ _)
          have HZn := Lib.hid (HZ.out.below hB7 HZ.out.lt)
          have HB7 := Lib.hid (HB.out.trans (hB7.mono HB.out.size))
          have HG : Hid (w.heap.size + 2 ≤ gb) := Lib.hid (by have := HS.out; omega)
          have hone2 := Tr.one (allQ gb)
          have c0 := (At.tr_cell HA.out).1
          rw [hk] at c0
          rw [hL0]
          clear hLj HO HP hv0 hB7 hw7 hgb
          go_wp2_with (first
            | (with_reducible show wpList _ _ _ ({ dst := _, op := .build _ _, type := _, pos := _, after := _, guard := _ } :: _) _ _
               first
               | refine wpList_build_as rfl 27 _ rfl (leafP 2).cs.toArray built_leaf2 ?_
               | refine wpList_build_as rfl 27 _ rfl (allQ gb).cs.toArray (built_all gb) ?_)
            | (with_reducible show wpList _ _ _ ({ dst := _, op := .buildSlice _ _ _, type := _, pos := _, after := _, guard := _ } :: _) _ _
               refine wpList_slice_tr rfl _ (leafP 2) rfl rfl ?_
               rw [← HW7.out, ← HGb.out])
            | (with_reducible show wpList _ _ _ ({ dst := none, op := .store 27 _ _, type := _, pos := _, after := _, guard := _ } :: _) _ _
               refine wpList_store_row rfl 27 _ _ rfl (w.heap.size + 1) (allQ gb).cs.toArray rfl rfl 27 Tr.blank.cs.toArray HZn.out (by kernel_rfl) rfl hone2 ?_)
            | fail)
          have hO : Only (w.heap.size + 1) w7 (w7.setRow (w.heap.size + 1) (allQ gb).cs.toArray) := Only.row _ _ _
          have hg := HG.out
          have m := allQ_in (k := k) (hO.at HAt7.out (by omega)) 
          exact bodyPost_ret (results_cell_row Tryd.results9 _ _ (w.heap.size + 1) 27 (allQ gb).cs.toArray (0, 0) _ rfl (HZn.out.row _) Tryd.underlying27 rfl (by kernel_rfl)) rfl ⟨_, rfl, m, allQ_from (by omega), HE.out, HB7.out.trans (hO.below (by omega))⟩
        · by_cases hl1 : t.parts.length = 1
          · have HL1 := Lib.hid hl1
            have hLl : L.length = 1 := by omega
            obtain ⟨p, rfl⟩ : ∃ p, L = [p] := List.length_eq_one_iff.1 hLl
            obtain ⟨A, c, hv, _⟩ := HP.out.form
            replace hv : v = .slice A 1 c := hv
            subst hv
            obtain ⟨g, rfl, hg1, hg2, hr1⟩ := ownP_one HP.out
            have HR1 := Lib.hid hr1
            have HE : Hid (p.strip (k + 1) = plainS (k + 1) t) := Lib.hid (by
              have h1 := HO.out
              rw [List.take_length] at h1
              rw [plain_one (by omega) hl1]
              obtain ⟨a, ha⟩ : ∃ a, t.parts = [a] := List.length_eq_one_iff.1 hl1
              simp only [ha, List.map_cons, List.map_nil, List.cons.injEq, and_true] at h1
              simp only [ha, List.getElem_cons_zero]
              exact h1)
            have HM := Lib.hid (HP.out.ins p (by simp))
            have hone2 := Tr.one p
            have HZn := HZ
            have c0 := (At.tr_cell HA.out).1
            rw [hk] at c0
            clear hr1 hLj hl1 hLl HO HP hv0
            go_wp2_with (first
              | (with_reducible show wpList _ _ _ ({ dst := _, op := .load 27 _, type := _, pos := _, after := _, guard := _ } :: _) _ _
                 refine wpList_load_mid rfl 27 _ rfl g 0 rfl p.cs _ HR1.out Tryd.underlying27 rfl (by rw [Tr.cs_length]; kernel_rfl) ?_)
              | (with_reducible show wpList _ _ _ ({ dst := none, op := .store 27 _ _, type := _, pos := _, after := _, guard := _ } :: _) _ _
                 refine wpList_store_row rfl 27 _ _ rfl (w.heap.size + 1) p.cs.toArray rfl rfl 27 Tr.blank.cs.toArray HZn.out (by kernel_rfl) rfl hone2 ?_)
              | fail)
            have hO : Only (w.heap.size + 1) wr (wr.setRow (w.heap.size + 1) p.cs.toArray) := Only.row _ _ _
            exact bodyPost_ret (results_cell_row Tryd.results9 _ _ (w.heap.size + 1) 27 p.cs.toArray (0, 0) _ rfl (HZn.out.row _) Tryd.underlying27 rfl (by kernel_rfl)) rfl ⟨_, rfl, (HM.out.1.only HM.out.2.1 hO (by omega)).up', Tr.From.up HM.out.1 (HM.out.2.1.lower (by omega)), (strip_succ HM.out.1).trans HE.out, HB.out.trans (hO.below (by omega))⟩
          · have hl2 : 2 ≤ t.parts.length := by omega
            have e0 : ((L.length : Int) == 0) = false := beq_eq_false_iff_ne.2 (by omega)
            have e1 : ((L.length : Int) == 1) = false := beq_eq_false_iff_ne.2 (by omega)
            have e0n : (L.length == 0) = false := beq_eq_false_iff_ne.2 (by omega)
            have e1n : (L.length == 1) = false := beq_eq_false_iff_ne.2 (by omega)
            have HLn : Hid (L.length ≤ 2000) := Lib.hid (by omega)
            obtain ⟨A, c, hv, _⟩ := HP.out.form
            replace hv : v = .slice A L.length c := hv
            subst hv
            have HO2 : Hid (L.map (Tr.strip (k + 1)) = t.parts.map (plainP (k + 1))) := Lib.hid (by have h1 := HO.out; rw [List.take_length] at h1; exact h1)
            have HE : Hid (Tr.node t.kind t.set none t.parts.length 0 (t.parts.map (plainP (k + 1))) t.lo t.hi t.neg = plainS (k + 1) t) := Lib.hid (plain_node (by omega) (by omega)).symm
            obtain ⟨g3, hg3⟩ : ∃ g3, g3 = wr.heap.size := ⟨_, rfl⟩
            have HG3 : Hid (w.heap.size + 2 ≤ g3) := Lib.hid (by rw [hg3]; exact HS.out)
            have HGq := Lib.hid hg3
            have hX := boxW_at wr t
            rw [← hg3] at hX
            have q5 := hX.cell 5
            have f5 := hX.free 5
            rw [show t.cs.toArray[5]? = some (.slice t.addr t.n t.cap) from rfl] at q5
            have hO1 : Only g3 (boxW wr t) ((boxW wr t).setCell ⟨g3, 5, none⟩ (.slice A L.length c)) := (Only.refl g3 (boxW wr t)).cell 5 _
            have hbx := boxW_next wr t
            have HAx := Lib.hid (HA.out.below hbx HA.out.lt)
            have HX1 := Lib.hid (hX.set 5 (.slice A L.length c))
            have HZn := Lib.hid (hO1.at (HZ.out.below hbx HZ.out.lt) (by have := HG3.out; omega))
            have HBn := Lib.hid ((HB.out.trans (hbx.mono HB.out.size)).trans (hO1.below (by have := HG3.out; omega)))
            have HPn : Hid (PartsOf ((boxW wr t).setCell ⟨g3, 5, none⟩ (.slice A L.length c)) (w.heap.size + 2) (.slice A L.length c) L (k + 1)) := Lib.hid (PartsOf.grown_at (HP.out.next hbx) hO1.grown (by rw [hg3]; exact Nat.le_refl _) HP.out (by rw [hg3]; exact Nat.le_refl _))
            have hone := Tr.one t
            have hone2 := Tr.one (Tr.node t.kind t.set A L.length c L t.lo t.hi t.neg)
            have c0 := (At.tr_cell HA.out).1
            rw [hk] at c0
            clear hLj HO HP hv0 hX hO1 hbx hg3
            go_wp2_with (first
              | (with_reducible show wpList _ _ _ ({ dst := _, op := .load 27 _, type := _, pos := _, after := _, guard := _ } :: _) _ _
                 first
                 | refine wpList_load_row rfl 27 _ rfl w.heap.size rfl 27 t.cs.toArray (0, 0) _ HA.out Tryd.underlying27 rfl (by kernel_rfl) ?_
                 | refine wpList_load_row rfl 27 _ rfl g3 rfl 27 (Tr.node t.kind t.set A L.length c L t.lo t.hi t.neg).cs.toArray (0, 0) _ HX1.out Tryd.underlying27 rfl (by kernel_rfl) ?_)
              | (with_reducible show wpList _ _ _ ({ dst := none, op := .store 27 _ _, type := _, pos := _, after := _, guard := _ } :: _) _ _
                 first
                 | (refine wpList_store_row rfl 27 _ _ rfl wr.heap.size t.cs.toArray rfl rfl 27 Tr.blank.cs.toArray (At.new _ _ _) (by kernel_rfl) rfl hone ?_
                    first | change wpList _ _ _ _ _ (boxW wr t) | change Exit.then _ _ _ _ (boxW wr t)
                    rw [← HGq.out])
                 | refine wpList_store_row rfl 27 _ _ rfl (w.heap.size + 1) (Tr.node t.kind t.set A L.length c L t.lo t.hi t.neg).cs.toArray rfl rfl 27 Tr.blank.cs.toArray HZn.out (by kernel_rfl) rfl hone2 ?_)
              | fail)
            have hO : Only (w.heap.size + 1) ((boxW wr t).setCell ⟨g3, 5, none⟩ (.slice A L.length c)) (((boxW wr t).setCell ⟨g3, 5, none⟩ (.slice A L.length c)).setRow (w.heap.size + 1) (Tr.node t.kind t.set A L.length c L t.lo t.hi t.neg).cs.toArray) := Only.row _ _ _
            obtain ⟨m1, m2, m3⟩ := listed_in (S := plainP) (parts := t.parts) (kd := t.kind) (lo := t.lo) (hi := t.hi) (neg := t.neg) HI.out.1.1 HI.out.1.2.1 HI.out.1.2.2.1 HI.out.1.2.2.2 HLn.out (HPn.out.only hO (by omega)) HO2.out
            exact bodyPost_ret (results_cell_row Tryd.results9 _ _ (w.heap.size + 1) 27 (Tr.node t.kind t.set A L.length c L t.lo t.hi t.neg).cs.toArray (0, 0) _ rfl (HZn.out.row _) Tryd.underlying27 rfl (by kernel_rfl)) rfl ⟨_, rfl, m1, m2.lower (by omega), m3.trans HE.out, HBn.out.trans (hO.below (by omega))⟩
      have k0 := (int_ne (show ¬ t.kind = 0 by omega)).1
      have k3 := (int_ne (show ¬ t.kind = 3 by omega)).1
      have k4 := (int_ne (show ¬ t.kind = 4 by omega)).1
      have k5 := (int_ne (show ¬ t.kind = 5 by omega)).1
      have HLn : Hid (L.length ≤ 2000) := Lib.hid (by omega)
      obtain ⟨A, c, hv, _⟩ := HP.out.form
      replace hv : v = .slice A L.length c := hv
      subst hv
      have HO2 : Hid (L.map (Tr.strip (k + 1)) = t.parts.map (plainP (k + 1))) := Lib.hid (by have h1 := HO.out; rw [List.take_length] at h1; exact h1)
      have HE : Hid (Tr.node t.kind t.set none t.parts.length 0 (t.parts.map (plainP (k + 1))) t.lo t.hi t.neg = plainS (k + 1) t) := Lib.hid (plain_node (by omega) (by omega)).symm
      obtain ⟨g3, hg3⟩ : ∃ g3, g3 = wr.heap.size := ⟨_, rfl⟩
      have HG3 : Hid (w.heap.size + 2 ≤ g3) := Lib.hid (by rw [hg3]; exact HS.out)
      have HGq := Lib.hid hg3
      have hX := boxW_at wr t
      rw [← hg3] at hX
      have q5 := hX.cell 5
      have f5 := hX.free 5
      rw [show t.cs.toArray[5]? = some (.slice t.addr t.n t.cap) from rfl] at q5
      have hO1 : Only g3 (boxW wr t) ((boxW wr t).setCell ⟨g3, 5, none⟩ (.slice A L.length c)) := (Only.refl g3 (boxW wr t)).cell 5 _
      have hbx := boxW_next wr t
      have HAx := Lib.hid (HA.out.below hbx HA.out.lt)
      have HX1 := Lib.hid (hX.set 5 (.slice A L.length c))
      have HZn := Lib.hid (hO1.at (HZ.out.below hbx HZ.out.lt) (by have := HG3.out; omega))
      have HBn := Lib.hid ((HB.out.trans (hbx.mono HB.out.size)).trans (hO1.below (by have := HG3.out; omega)))
      have HPn : Hid (PartsOf ((boxW wr t).setCell ⟨g3, 5, none⟩ (.slice A L.length c)) (w.heap.size + 2) (.slice A L.length c) L (k + 1)) := Lib.hid (PartsOf.grown_at (HP.out.next hbx) hO1.grown (by rw [hg3]; exact Nat.le_refl _) HP.out (by rw [hg3]; exact Nat.le_refl _))
      have hone := Tr.one t
      have hone2 := Tr.one (Tr.node t.kind t.set A L.length c L t.lo t.hi t.neg)
      have c0 := (At.tr_cell HA.out).1
      skip
      clear hLj HO HP hv0 hX hO1 hbx hg3
      go_wp2_with (first
        | (with_reducible show wpList _ _ _ ({ dst := _, op := .load 27 _, type := _, pos := _, after := _, guard := _ } :: _) _ _
           first
           | refine wpList_load_row rfl 27 _ rfl w.heap.size rfl 27 t.cs.toArray (0, 0) _ HA.out Tryd.underlying27 rfl (by kernel_rfl) ?_
           | refine wpList_load_row rfl 27 _ rfl g3 rfl 27 (Tr.node t.kind t.set A L.length c L t.lo t.hi t.neg).cs.toArray (0, 0) _ HX1.out Tryd.underlying27 rfl (by kernel_rfl) ?_)
        | (with_reducible show wpList _ _ _ ({ dst := none, op := .store 27 _ _, type := _, pos := _, after := _, guard := _ } :: _) _ _
           first
           | (refine wpList_store_row rfl 27 _ _ rfl wr.heap.size t.cs.toArray rfl rfl 27 Tr.blank.cs.toArray (At.new _ _ _) (by kernel_rfl) rfl hone ?_
              first | change wpList _ _ _ _ _ (boxW wr t) | change Exit.then _ _ _ _ (boxW wr t)
              rw [← HGq.out])
           | refine wpList_store_row rfl 27 _ _ rfl (w.heap.size + 1) (Tr.node t.kind t.set A L.length c L t.lo t.hi t.neg).cs.toArray rfl rfl 27 Tr.blank.cs.toArray HZn.out (by kernel_rfl) rfl hone2 ?_)
        | fail)
      have hO : Only (w.heap.size + 1) ((boxW wr t).setCell ⟨g3, 5, none⟩ (.slice A L.length c)) (((boxW wr t).setCell ⟨g3, 5, none⟩ (.slice A L.length c)).setRow (w.heap.size + 1) (Tr.node t.kind t.set A L.length c L t.lo t.hi t.neg).cs.toArray) := Only.row _ _ _
      obtain ⟨m1, m2, m3⟩ := listed_in (S := plainP) (parts := t.parts) (kd := t.kind) (lo := t.lo) (hi := t.hi) (neg := t.neg) HI.out.1.1 HI.out.1.2.1 HI.out.1.2.2.1 HI.out.1.2.2.2 HLn.out (HPn.out.only hO (by omega)) HO2.out
      exact bodyPost_ret (results_cell_row Tryd.results9 _ _ (w.heap.size + 1) 27 (Tr.node t.kind t.set A L.length c L t.lo t.hi t.neg).cs.toArray (0, 0) _ rfl (HZn.out.row _) Tryd.underlying27 rfl (by kernel_rfl)) rfl ⟨_, rfl, m1, m2.lower (by omega), m3.trans HE.out, HBn.out.trans (hO.below (by omega))⟩

theorem refPlain : ∀ k, MakesPlain 9 k
  | 0 => fun _ _ h => h.elim
  | k + 1 => fun t w h hs => refPlain_step k (refPlain k) t w h hs

end Go.Proofs.YtibmcdgnponpmaaDoor
