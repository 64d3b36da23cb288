/- tree.copied: a pattern in memory of its own. -/
import Derived.Test.YtjkcbojlopdonaaProg
import Derived.Test.YtjkcbojlopdonaaMaf
namespace Go.Proofs.Ytjkcbojlopdonaa
open Go.RowKit
set_option linter.unusedSimpArgs false
set_option linter.unusedVariables false

/-- Sol stays where nothing but a block below has turned. -/
theorem Tr.Sol.only {g base : Nat} {w w' : World} (ho : Only g w w') (hg : g < base) : ∀ (k : Nat) (t : Tr), Tr.From base k t → Tr.Sol w k t → Tr.Sol w' k t
  | 0, _, _, _ => trivial
  | k + 1, t, hf, hs => ⟨fun h0 b off e => by
      have hb := hf.1 h0 b off e
      rw [World.frozen?_of_block (w := w) (ho.2.2.2.2 b (by omega))]
      exact hs.1 h0 b off e, fun p hp => Tr.Sol.only ho hg k p (hf.2 p hp) (hs.2 p hp)⟩
theorem Tr.Ins.only {g base k : Nat} {w w' : World} {t : Tr} (h : Tr.Ins w k t) (hf : Tr.From base k t) (ho : Only g w w') (hg : g < base) : Tr.Ins w' k t :=
  ⟨h.1.only hf ho hg, Tr.Sol.only ho hg k t hf h.2⟩
/-- What a function answers that makes a pattern of its own: as Made, and its lists may be held against each other. -/
def MadeI (S : Nat → Tr → Tr) (k : Nat) (t : Tr) (w : World) (e : Ending) (w' : World) : Prop := ∃ t2 : Tr, e = .returned (.agg t2.cs.toArray) ∧ Tr.Ins w' k t2 ∧ Tr.From w.heap.size k t2 ∧ t2.strip k = S k t ∧ Below w.heap.size w w'
def MakesI (F : Nat) (S : Nat → Tr → Tr) (k : Nat) : Prop := ∀ (t : Tr) (w : World), Tr.In w k t → slimS k t → Calls Try.prog F #[.agg t.cs.toArray] w (MadeI S k t w)
def RowOfI (S : Nat → Tr → Tr) (w' : World) (B k n : Nat) (A : Option Addr) (parts : List Tr) (ps : Nat → Tr) : Prop :=
  0 < n → ∃ g, A = some ⟨g, 0, none⟩ ∧ B ≤ g ∧ g < w'.heap.size ∧ RowTr w' g n ps ∧ ∀ (p : Nat) (h : p < parts.length), Tr.Ins w' k (ps p) ∧ Tr.From (g + 1) k (ps p) ∧ (ps p).strip k = S k parts[p]
theorem RowOfI.plain {S : Nat → Tr → Tr} {w : World} {B k n : Nat} {A : Option Addr} {parts : List Tr} {ps : Nat → Tr} (h : RowOfI S w B k n A parts ps) : RowOf S w B k n A parts ps := fun h0 => by
  obtain ⟨g, e, hb, hlt, hr, hp⟩ := h h0
  exact ⟨g, e, hb, hlt, hr, fun p hh => ⟨(hp p hh).1.1, (hp p hh).2⟩⟩
def EachPostI (S : Nat → Tr → Tr) (k n : Nat) (parts : List Tr) (w : World) (e : Ending) (w' : World) : Prop :=
  ∃ (A : Option Addr) (c : Nat) (ps : Nat → Tr), e = .returned (.slice A n c) ∧ (n = 0 → A = none ∧ c = 0) ∧ RowOfI S w' w.heap.size k n A parts ps ∧ Below w.heap.size w w'
theorem RowOfI.only {S : Nat → Tr → Tr} {w w' : World} {B k n g0 : Nat} {A : Option Addr} {parts : List Tr} {ps : Nat → Tr} (h : RowOfI S w B k n A parts ps) (ho : Only g0 w w') (hg : g0 < B) : RowOfI S w' B k n A parts ps := fun h0 => by
  obtain ⟨g, e, hb, hlt, hr, hp⟩ := h h0
  obtain ⟨g', e', hb', hlt', hr', hp'⟩ := h.plain.only ho hg h0
  have : g' = g := by rw [e] at e'; injection e' with e'; injection e' with e'; exact e'.symm
  subst this
  exact ⟨g', e, hb, hlt', hr', fun p hpp => ⟨(hp p hpp).1.only (hp p hpp).2.1 ho (by omega), (hp p hpp).2⟩⟩
theorem made_inI {S : Nat → Tr → Tr} {w' : World} {B k n c : Nat} {A : Option Addr} {parts : List Tr} {ps : Nat → Tr} {kd lo hi : Int} {set : St} {neg : Bool} (hset : set.Ok) (hkd : I64 kd) (hlo : I64 lo) (hhi : I64 hi)
    (hn : n = parts.length) (hn2 : n ≤ 2000) (h : RowOfI S w' B k n A parts ps) :
    Tr.Ins w' (k + 1) (.node kd set A n c ((List.range n).map ps) lo hi neg) ∧ Tr.From B (k + 1) (.node kd set A n c ((List.range n).map ps) lo hi neg) ∧
      (Tr.node kd set A n c ((List.range n).map ps) lo hi neg).strip (k + 1) = .node kd set none n 0 (parts.map (S k)) lo hi neg := by
  obtain ⟨h1, h2, h3⟩ := made_in (c := c) (kd := kd) (lo := lo) (hi := hi) (neg := neg) hset hkd hlo hhi hn hn2 h.plain
  refine ⟨⟨h1, fun h0 b off e => ?_, fun p hp => ?_⟩, h2, h3⟩
  · have h0' : 0 < n := h0
    obtain ⟨g, e', hb, hlt, hr, hp⟩ := h h0'
    have e2 : A = some ⟨b, off, none⟩ := e
    rw [e2] at e'
    injection e' with e'
    injection e' with e1 e3
    subst e1; subst e3
    have := (hr.there 0 h0' 0 (by omega)).2
    simpa using this
  · have hp' : p ∈ (List.range n).map ps := hp
    rw [List.mem_map] at hp'
    obtain ⟨j, hj, rfl⟩ := hp'
    have hj' := List.mem_range.1 hj
    obtain ⟨g, e, hb, hlt, hr, hq⟩ := h (by omega)
    exact (hq j (by omega)).1.2

set_option maxRecDepth 100000 in
set_option maxHeartbeats 2000000 in
theorem eachNil (S : Nat → Tr → Tr) (k c : Nat) (A : Option Addr) (w : World) :
    Calls Try.prog 41 #[.slice A 0 c, .func (.func 36) #[] #[]] w fun e w' => e = .returned (.slice none 0 0) ∧ Below w.heap.size w w' := by
  go_enter Try.func41, Try.ntmps41
  go_wp2_with fail
  go_ret
  exact ⟨rfl, Below.refl _ _⟩

set_option maxRecDepth 100000 in
set_option maxHeartbeats 4000000 in
theorem eachSome (S : Nat → Tr → Tr) (k c n b off : Nat) (parts : List Tr) (hF : MakesI 36 S k) (w : World) (hn : n = parts.length) (h0 : 0 < n) (hn2 : n ≤ 2000) (hbw : b < w.heap.size)
    (hr : ∀ (j : Nat) (h : j < parts.length), w.rangeAt b (off + j * 9) parts[j].cs) (hin : ∀ (j : Nat) (h : j < parts.length), Tr.In w k parts[j]) (hsl : ∀ (j : Nat) (h : j < parts.length), slimS k parts[j]) :
    Calls Try.prog 41 #[.slice (some ⟨b, off, none⟩) n c, .func (.func 36) #[] #[]] w (EachPostI S k n parts w) := by
  have HF := Lib.hid hF
  have HN := Lib.hid hn
  have HR := Lib.hid hr
  have HI := Lib.hid hin
  have HSl := Lib.hid hsl
  have hm := make_re n (by omega)
  have hne1 : ¬ (n : Int) = 0 := by omega
  have hne := (int_ne hne1).1
  have H0 : Hid (RowTr (w.alloc (.cells (madeCells Tr.blank.cs.toArray (n * 9)) 35)) w.heap.size n (fun _ => Tr.blank)) := Lib.hid (made_row w n)
  have HB0 : Hid (Below w.heap.size w (w.alloc (.cells (madeCells Tr.blank.cs.toArray (n * 9)) 35))) := Lib.hid ((Below.refl _ _).alloc (Nat.le_refl _) _)
  clear hF hn hr hin hsl
  go_enter Try.func41, Try.ntmps41
  go_wp2_with fail
  clear hm
  generalize hw1 : w.alloc (.cells (madeCells Tr.blank.cs.toArray (n * 9)) 35) = w1 at H0 HB0 ⊢
  clear hw1
  go_loopw [16] (fun i wr => ∃ (j : Nat) (ps : Nat → Tr), j ≤ n ∧ i = .int .i64 j ∧ Hid (RowTr wr w.heap.size n ps) ∧ Hid (∀ (p : Nat) (h : p < parts.length), p < j → Tr.Ins wr k (ps p) ∧ Tr.From (w.heap.size + 1) k (ps p) ∧ (ps p).strip k = S k parts[p]) ∧ Hid (Below w.heap.size w wr)) (fun i _ => n - (intOf i).toNat)
  case atStart => exact ⟨0, fun _ => Tr.blank, Nat.zero_le _, rfl, H0, Lib.hid (fun p _ hp => absurd hp (Nat.not_lt_zero _)), HB0⟩
  case round =>
    clear H0 HB0
    obtain ⟨j, ps, hj, rfl, HP, HD, HB⟩ := hrel
    have hgl := HP.out.lt h0
    by_cases hlt : j < n
    · have hlt' : j < parts.length := by rw [← HN.out]; exact hlt
      have HRj := Lib.hid (range_below (HR.out j hlt') hbw (Nat.le_refl _) HB.out)
      have HIj := Lib.hid (((HI.out j hlt').next HB.out).next (boxW_next wr parts[j]))
      have HSj := Lib.hid (HSl.out j hlt')
      have hA2 := boxW_at wr parts[j]
      obtain ⟨t, ht⟩ : ∃ t, parts[j] = t := ⟨_, rfl⟩
      have HT := Lib.hid ht
      rw [ht] at HRj HIj HSj hA2
      clear ht
      have HBx := Lib.hid (boxW_below HB.out t)
      have hjz : (0 : Int) ≤ (j : Int) := by omega
      have hjn : (j : Int) < (n : Int) := by omega
      go_wp2_with (first
        | (refine wpList_load_mid rfl 35 _ rfl b (off + j * 9) rfl t.cs _ HRj.out Try.underlying35 rfl (by rw [Tr.cs_length]; kernel_rfl) ?_)
        | (refine wpList_store_row rfl 35 _ _ rfl wr.heap.size t.cs.toArray rfl rfl 35 Tr.blank.cs.toArray (At.new _ _ _) (by kernel_rfl) rfl (Tr.one _) ?_; change Exit.then _ _ _ _ (boxW wr t))
        | (refine wpList_load_row rfl 35 _ rfl wr.heap.size rfl 35 t.cs.toArray (0, 0) _ hA2 Try.underlying35 rfl (by kernel_rfl) ?_) | fail)
      refine (HF.out t _ HIj.out HSj.out).mono ?_
      rintro e w3 ⟨t2, rfl, hin2, hfr2, hst2, hb3⟩
      have hsz := boxW_size wr t
      have HP3 := Lib.hid ((HP.out.below (boxW_next wr t) hgl).below hb3 (by rw [hsz]; omega))
      have HB3 := Lib.hid (HBx.out.trans (hb3.mono HBx.out.size))
      have HD3 : Hid (∀ (p : Nat) (h : p < parts.length), p < j → Tr.Ins w3 k (ps p) ∧ Tr.From (w.heap.size + 1) k (ps p) ∧ (ps p).strip k = S k parts[p]) := fun p hp hpj =>
        ⟨((HD.out p hp hpj).1.next (boxW_next wr t)).next hb3, (HD.out p hp hpj).2⟩
      have HI2 := Lib.hid hin2
      have HF2 := Lib.hid (Tr.From.lower (show w.heap.size + 1 ≤ (boxW wr t).heap.size by rw [hsz]; omega) k t2 hfr2)
      have HS2 : Hid (t2.strip k = S k parts[j]) := by rw [HT.out]; exact hst2
      clear hin2 hfr2 hst2 hb3 hsz hA2
      have hone := Tr.one t2
      have hth : w3.there w.heap.size (j * 9) t2.cs.toArray.size := HP3.out.there j hlt
      go_wp2_with (first
        | (with_reducible show wpList _ _ _ ({ dst := none, op := .store _ _ _, type := _, pos := _, after := _, guard := _ } :: _) _ _
           refine wpList_store_mid rfl 35 _ _ rfl w.heap.size (j * 9) t2.cs.toArray rfl rfl hth (by kernel_rfl) hone ?_
           change wpList _ _ _ _ _ (putW w3 w.heap.size j t2)) | fail)
      have hO := putW_only w3 w.heap.size j t2
      refine ⟨⟨j + 1, fun p => if p = j then t2 else ps p, by omega, by go_num, Lib.hid (putW_row HP3.out hlt t2), Lib.hid (fun p hp hpj => ?_), Lib.hid (HB3.out.trans (hO.below (Nat.le_refl _)))⟩, by simp [intOf]; omega⟩
      by_cases e : p = j
      · subst e
        simp only [if_true]
        exact ⟨HI2.out.only HF2.out hO (by omega), HF2.out, HS2.out⟩
      · simp only [if_neg e]
        have hq := HD3.out p hp (by omega)
        exact ⟨hq.1.only hq.2.1 hO (by omega), hq.2.1, hq.2.2⟩
    · obtain rfl : j = n := by omega
      go_wp2_with fail
      go_ret
      exact ⟨_, _, ps, rfl, fun e => absurd e (by omega), fun _ => ⟨w.heap.size, rfl, Nat.le_refl _, hgl, HP.out, fun p hp => HD.out p hp (by rw [HN.out]; exact hp)⟩, HB.out⟩

theorem eachAny (S : Nat → Tr → Tr) (k : Nat) (hF : MakesI 36 S k) (t : Tr) (w : World) (h : Tr.In w (k + 1) t) (hs : slimS (k + 1) t) :
    Calls Try.prog 41 #[.slice t.addr t.parts.length t.cap, .func (.func 36) #[] #[]] w (EachPostI S k t.parts.length t.parts w) := by
  by_cases h0 : t.parts.length = 0
  · rw [h0]
    refine (eachNil S k t.cap t.addr w).mono ?_
    rintro e w' ⟨rfl, hb⟩
    exact ⟨none, 0, fun _ => Tr.blank, rfl, fun _ => ⟨rfl, rfl⟩, fun q => absurd q (Nat.lt_irrefl _), hb⟩
  · obtain ⟨b, off, ha, hb, hr⟩ := h.2.2.1 (by rw [h.2.1.1]; omega)
    rw [ha]
    exact eachSome S k t.cap t.parts.length b off t.parts hF w rfl (by omega) hs.1 hb hr h.2.2.2 (fun j hj => hs.2 _ (List.getElem_mem hj))

set_option maxRecDepth 100000 in
set_option maxHeartbeats 4000000 in
theorem copied_step (k : Nat) (ih : MakesI 36 (fun k t => Tr.strip k t) k) (t : Tr) (w : World) (h : Tr.In w (k + 1) t) (hs : slimS (k + 1) t) :
    Calls Try.prog 36 #[.agg t.cs.toArray] w (MadeI (fun k t => Tr.strip k t) (k + 1) t w) := by
  have hn := h.2.1.1
  have HN := Lib.hid hn
  have HI := Lib.hid h
  have HIH := Lib.hid ih
  have HSl := Lib.hid hs
  obtain ⟨w2, hw2⟩ : ∃ w2, w2 = (w.alloc (.cells t.cs.toArray 35)).alloc (.cells #[.int .i64 0, .int .u64 0, .int .u64 0, .int .u64 0, .int .u64 0, .slice none 0 0, .int .i64 0, .int .i64 0, .bool false] 35) := ⟨_, rfl⟩
  have HA0 : Hid (At w2 w.heap.size 35 t.cs.toArray) := Lib.hid (by rw [hw2]; exact (At.new _ _ _).alloc _)
  have HZ0 : Hid (At w2 (w.heap.size + 1) 35 Tr.blank.cs.toArray) := Lib.hid (by rw [hw2]; exact at_new' (w.alloc (.cells t.cs.toArray 35)) (w.heap.size + 1) 35 (cs := Tr.blank.cs.toArray) (by simp))
  have HB0 : Hid (Below w.heap.size w w2) := Lib.hid (by rw [hw2]; exact below_two _ _)
  have HW2 := Lib.hid hw2
  have hsz2 : w2.heap.size = w.heap.size + 2 := by rw [hw2]; simp
  have HSz := Lib.hid hsz2
  obtain ⟨c0, c5, c6, c7, c8⟩ := At.tr_cell HA0.out
  rw [hw2] at c5
  rw [hn] at c5
  clear h hs ih hn hw2 hsz2 c0 c6 c7 c8
  go_enter Try.func36, Try.ntmps36
  go_wp2_with fail
  rw [← HW2.out]
  refine (eachAny (fun k t => Tr.strip k t) k HIH.out t _ (HI.out.next HB0.out) HSl.out).mono ?_
  rintro e w3 ⟨A, c2, ps, rfl, hA0, hrow, hb3⟩
  have HA3 := Lib.hid (HA0.out.below hb3 HA0.out.lt)
  have HZ3 := Lib.hid (HZ0.out.below hb3 HZ0.out.lt)
  have HB3 := Lib.hid (HB0.out.trans (hb3.mono HB0.out.size))
  have HR3 : Hid (RowOfI (fun k t => Tr.strip k t) w3 (w.heap.size + 2) k t.parts.length A t.parts ps) := Lib.hid (by rw [← HSz.out]; exact hrow)
  have HN0 := Lib.hid hA0
  clear hb3 hrow hA0 c5
  have q5 := HA3.out.cell 5
  have f5 := HA3.out.free 5
  have c0 := HA3.out.cell 0
  have f0 := HA3.out.free 0
  have r0 : t.cs.toArray[0]? = some (.int .i64 t.kind) := rfl
  have r5 : t.cs.toArray[5]? = some (.slice t.addr t.n t.cap) := rfl
  rw [r5] at q5
  rw [r0] at c0
  clear r0 r5
  have hAu : At (w3.setCell ⟨w.heap.size, 5, none⟩ (.slice A t.parts.length c2)) w.heap.size 35 (Tr.node t.kind t.set A t.parts.length c2 ((List.range t.parts.length).map (ps)) t.lo t.hi t.neg).cs.toArray := HA3.out.set 5 _
  have hZu : At (w3.setCell ⟨w.heap.size, 5, none⟩ (.slice A t.parts.length c2)) (w.heap.size + 1) 35 Tr.blank.cs.toArray := HZ3.out.other (p := ⟨w.heap.size, 5, none⟩) (by dsimp only; omega) _
  have hRu : RowOfI (fun k t => Tr.strip k t) (w3.setCell ⟨w.heap.size, 5, none⟩ (.slice A t.parts.length c2)) (w.heap.size + 2) k t.parts.length A (t.parts) (ps) := HR3.out.only ((Only.refl w.heap.size w3).cell 5 _) (by omega)
  have hBu : Below w.heap.size w (w3.setCell ⟨w.heap.size, 5, none⟩ (.slice A t.parts.length c2)) := HB3.out.setCell (Nat.le_refl _) _
  have hone := Tr.one (Tr.node t.kind t.set A t.parts.length c2 ((List.range t.parts.length).map (ps)) t.lo t.hi t.neg)
  have HAu := Lib.hid hAu
  have HZu := Lib.hid hZu
  have HRu := Lib.hid hRu
  have HBu := Lib.hid hBu
  clear hAu hZu hRu hBu
  go_wp2_with (first
    | (refine wpList_load_row rfl 35 _ rfl w.heap.size rfl 35 (Tr.node t.kind t.set A t.parts.length c2 ((List.range t.parts.length).map (ps)) t.lo t.hi t.neg).cs.toArray (0, 0) _ HAu.out Try.underlying35 rfl (by kernel_rfl) ?_)
    | (with_reducible show wpList _ _ _ ({ dst := none, op := .store _ _ _, type := _, pos := _, after := _, guard := _ } :: _) _ _
       refine wpList_store_row rfl 35 _ _ rfl (w.heap.size + 1) (Tr.node t.kind t.set A t.parts.length c2 ((List.range t.parts.length).map (ps)) t.lo t.hi t.neg).cs.toArray rfl rfl 35 Tr.blank.cs.toArray HZu.out (by kernel_rfl) rfl hone ?_) | fail)
  have hO : Only (w.heap.size + 1) (w3.setCell ⟨w.heap.size, 5, none⟩ (.slice A t.parts.length c2)) ((w3.setCell ⟨w.heap.size, 5, none⟩ (.slice A t.parts.length c2)).setRow (w.heap.size + 1) (Tr.node t.kind t.set A t.parts.length c2 ((List.range t.parts.length).map (ps)) t.lo t.hi t.neg).cs.toArray) := Only.row _ _ _
  obtain ⟨m1, m2, m3⟩ := made_inI (c := c2) (lo := t.lo) (hi := t.hi) (neg := t.neg) (kd := t.kind) HI.out.1.1 HI.out.1.2.1 HI.out.1.2.2.1 HI.out.1.2.2.2 (by rfl) HSl.out.1 (HRu.out.only hO (by omega))
  exact bodyPost_ret (results_cell_row Try.results36 _ _ (w.heap.size + 1) 35 (Tr.node t.kind t.set A t.parts.length c2 ((List.range t.parts.length).map (ps)) t.lo t.hi t.neg).cs.toArray (0, 0) _ rfl (HZu.out.row _) Try.underlying35 rfl (by kernel_rfl)) rfl ⟨_, rfl, m1, m2.lower (by omega), m3.trans (by rfl), HBu.out.trans (hO.below (by omega))⟩

theorem copied : ∀ k, MakesI 36 (fun k t => Tr.strip k t) k
  | 0 => fun _ _ h => h.elim
  | k + 1 => fun t w h hs => copied_step k (copied k) t w h hs

end Go.Proofs.Ytjkcbojlopdonaa
