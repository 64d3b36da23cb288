/- tree.turned: a formed pattern turned round, in memory of its own. -/
import Derived.Test.YtignekgckkdgiaaProg
import Derived.Test.YtignekgckkdgiaaEach
import Derived.Test.YtignekgckkdgiaaReverseTr
import Derived.Test.YtignekgckkdgiaaRefSame
namespace Go.Proofs.Ytignekgckkdgiaa
open Go.RowKit
set_option linter.unusedSimpArgs false
set_option linter.unusedVariables false

theorem Only.row (g : Nat) (w : World) (cs : Array Value) : Only g w (w.setRow g cs) := ⟨rfl, rfl, rfl, setRow_size w g cs, fun k hk => setRow_other w g k cs hk⟩
theorem turnKind_other {x : Int} (h : ¬ x = 8 ∧ ¬ x = 9 ∧ ¬ x = 10 ∧ ¬ x = 11) : turnKind x = x := by
  unfold turnKind; rw [if_neg h.1, if_neg h.2.1, if_neg h.2.2.1, if_neg h.2.2.2]
theorem RowOf.rev {S : Nat → Tr → Tr} {w w' : World} {B k n g : Nat} {parts : List Tr} {ps : Nat → Tr} (hn : n = parts.length) (hb : B ≤ g) (hlt : g < w.heap.size) (hr : RowTr w' g n (fun p => ps (n - 1 - p))) (ho : Only g w w')
    (hp : ∀ (p : Nat) (h : p < parts.length), Tr.In w k (ps p) ∧ Tr.From (g + 1) k (ps p) ∧ (ps p).strip k = S k parts[p]) : RowOf S w' B k n (some ⟨g, 0, none⟩) parts.reverse (fun p => ps (n - 1 - p)) := fun h0 =>
  ⟨g, rfl, hb, by rw [ho.2.2.2.1]; exact hlt, hr, fun p hpp => by
    have hl : p < parts.length := by simpa using hpp
    have hq := hp (n - 1 - p) (by omega)
    refine ⟨hq.1.only hq.2.1 ho (by omega), hq.2.1, ?_⟩
    rw [hq.2.2, List.getElem_reverse]
    simp only [hn]⟩

set_option maxRecDepth 100000 in
set_option maxHeartbeats 4000000 in
theorem turned_3 (k : Nat) (ih : Makes 30 turnS k) (t : Tr) (w : World) (h : Tr.In w (k + 1) t) (hs : slimS (k + 1) t) (hk : t.kind = 3) :
    Calls Try.prog 30 #[.agg t.cs.toArray] w (Made turnS (k + 1) t w) := by
  have hn := h.2.1.1
  have HN := Lib.hid hn
  have HI := Lib.hid h
  have HIH := Lib.hid ih
  have HSl := Lib.hid hs
  obtain ⟨w2, hw2⟩ : ∃ w2, w2 = (w.alloc (.cells t.cs.toArray 27)).alloc (.cells #[.int .i64 0, .int .u64 0, .int .u64 0, .int .u64 0, .int .u64 0, .slice none 0 0, .int .i64 0, .int .i64 0, .bool false] 27) := ⟨_, rfl⟩
  have HA0 : Hid (At w2 w.heap.size 27 t.cs.toArray) := Lib.hid (by rw [hw2]; exact (At.new _ _ _).alloc _)
  have HZ0 : Hid (At w2 (w.heap.size + 1) 27 Tr.blank.cs.toArray) := Lib.hid (by rw [hw2]; exact at_new' (w.alloc (.cells t.cs.toArray 27)) (w.heap.size + 1) 27 (cs := Tr.blank.cs.toArray) (by simp))
  have HB0 : Hid (Below w.heap.size w w2) := Lib.hid (by rw [hw2]; exact below_two _ _)
  have HW2 := Lib.hid hw2
  have hsz2 : w2.heap.size = w.heap.size + 2 := by rw [hw2]; simp
  have HSz := Lib.hid hsz2
  obtain ⟨c0, c5, c6, c7, c8⟩ := At.tr_cell HA0.out
  rw [hw2] at c5
  rw [hn] at c5
  have HK := Lib.hid hk
  clear h hs ih hn hk hw2 hsz2 c0 c6 c7 c8
  go_enter Try.func30, Try.ntmps30
  go_wp2_with fail
  rw [← HW2.out]
  refine (eachAny turnS k HIH.out t _ (HI.out.next HB0.out) HSl.out).mono ?_
  rintro e w3 ⟨A, c2, ps, rfl, hA0, hrow, hb3⟩
  have HA3 := Lib.hid (HA0.out.below hb3 HA0.out.lt)
  have HZ3 := Lib.hid (HZ0.out.below hb3 HZ0.out.lt)
  have HB3 := Lib.hid (HB0.out.trans (hb3.mono HB0.out.size))
  have HR3 : Hid (RowOf turnS w3 (w.heap.size + 2) k t.parts.length A t.parts ps) := Lib.hid (by rw [← HSz.out]; exact hrow)
  have HN0 := Lib.hid hA0
  clear hb3 hrow hA0 c5
  have q5 := HA3.out.cell 5
  have f5 := HA3.out.free 5
  have c0 := HA3.out.cell 0
  have f0 := HA3.out.free 0
  have r0 : t.cs.toArray[0]? = some (.int .i64 t.kind) := rfl
  have r5 : t.cs.toArray[5]? = some (.slice t.addr t.n t.cap) := rfl
  rw [r5] at q5
  rw [r0, HK.out] at c0
  clear r0 r5
  by_cases h0 : t.parts.length = 0
  · obtain ⟨rfl, rfl⟩ := HN0.out h0
    have H0 := Lib.hid h0
    clear h0
    go_wp2_with fail
    refine (reverseNil t.parts.length H0.out _).mono ?_
    rintro e w5 ⟨rfl, hb5⟩
    have hAu : At (w5) w.heap.size 27 (Tr.node t.kind t.set none t.parts.length 0 ((List.range t.parts.length).map (fun p => ps (t.parts.length - 1 - p))) t.lo t.hi t.neg).cs.toArray := (HA3.out.set 5 (.slice none t.parts.length 0)).below hb5 (by simp; have := HA3.out.lt; omega)
    have hZu : At (w5) (w.heap.size + 1) 27 Tr.blank.cs.toArray := (HZ3.out.other (p := ⟨w.heap.size, 5, none⟩) (by dsimp only; omega) (.slice none t.parts.length 0)).below hb5 (by simp; have := HZ3.out.lt; omega)
    have hRu : RowOf turnS (w5) (w.heap.size + 2) k t.parts.length none (t.parts.reverse) (fun p => ps (t.parts.length - 1 - p)) := fun q => absurd H0.out (by omega)
    have hBu : Below w.heap.size w (w5) := (HB3.out.setCell (Nat.le_refl _) _).trans (hb5.mono (by simp; exact HB3.out.size))
    have hone := Tr.one (Tr.node t.kind t.set none t.parts.length 0 ((List.range t.parts.length).map (fun p => ps (t.parts.length - 1 - p))) t.lo t.hi t.neg)
    have HAu := Lib.hid hAu
    have HZu := Lib.hid hZu
    have HRu := Lib.hid hRu
    have HBu := Lib.hid hBu
    clear hAu hZu hRu hBu
    go_wp2_with (first
      | (refine wpList_load_row rfl 27 _ rfl w.heap.size rfl 27 (Tr.node t.kind t.set none t.parts.length 0 ((List.range t.parts.length).map (fun p => ps (t.parts.length - 1 - p))) t.lo t.hi t.neg).cs.toArray (0, 0) _ HAu.out Try.underlying27 rfl (by kernel_rfl) ?_)
      | (with_reducible show wpList _ _ _ ({ dst := none, op := .store _ _ _, type := _, pos := _, after := _, guard := _ } :: _) _ _
         refine wpList_store_row rfl 27 _ _ rfl (w.heap.size + 1) (Tr.node t.kind t.set none t.parts.length 0 ((List.range t.parts.length).map (fun p => ps (t.parts.length - 1 - p))) t.lo t.hi t.neg).cs.toArray rfl rfl 27 Tr.blank.cs.toArray HZu.out (by kernel_rfl) rfl hone ?_) | fail)
    have hO : Only (w.heap.size + 1) (w5) ((w5).setRow (w.heap.size + 1) (Tr.node t.kind t.set none t.parts.length 0 ((List.range t.parts.length).map (fun p => ps (t.parts.length - 1 - p))) t.lo t.hi t.neg).cs.toArray) := Only.row _ _ _
    obtain ⟨m1, m2, m3⟩ := made_in (c := 0) (lo := t.lo) (hi := t.hi) (neg := t.neg) (kd := t.kind) HI.out.1.1 HI.out.1.2.1 HI.out.1.2.2.1 HI.out.1.2.2.2 (by rw [List.length_reverse]) HSl.out.1 (HRu.out.only hO (by omega))
    exact bodyPost_ret (results_cell_row Try.results30 _ _ (w.heap.size + 1) 27 (Tr.node t.kind t.set none t.parts.length 0 ((List.range t.parts.length).map (fun p => ps (t.parts.length - 1 - p))) t.lo t.hi t.neg).cs.toArray (0, 0) _ rfl (HZu.out.row _) Try.underlying27 rfl (by kernel_rfl)) rfl ⟨_, rfl, m1, m2.lower (by omega), m3.trans (by rw [List.map_reverse]; show _ = Tr.node (turnKind t.kind) t.set none t.parts.length 0 (if t.kind = 3 then (t.parts.map (turnS k)).reverse else t.parts.map (turnS k)) t.lo t.hi t.neg; rw [HK.out]; rfl), HBu.out.trans (hO.below (by omega))⟩
  · obtain ⟨g, hg, hgb, hgl, hrt, hps⟩ := (HR3.out.only ((Only.refl w.heap.size w3).cell 5 (.slice A t.parts.length c2)) (by omega)) (by omega)
    subst hg
    have HPs := Lib.hid hps
    have HRt := Lib.hid hrt
    have hn1 : t.parts.length ≤ 1000000 := by have := HSl.out.1; omega
    clear hps hrt
    go_wp2_with fail
    refine (reverseTr g t.parts.length c2 ps _ hn1 HRt.out).mono ?_
    rintro e w5 ⟨rfl, hrt5, hO5⟩
    have hAu : At (w5) w.heap.size 27 (Tr.node t.kind t.set (some ⟨g, 0, none⟩) t.parts.length c2 ((List.range t.parts.length).map (fun p => ps (t.parts.length - 1 - p))) t.lo t.hi t.neg).cs.toArray := hO5.at (HA3.out.set 5 (.slice (some ⟨g, 0, none⟩) t.parts.length c2)) (by omega)
    have hZu : At (w5) (w.heap.size + 1) 27 Tr.blank.cs.toArray := hO5.at (HZ3.out.other (p := ⟨w.heap.size, 5, none⟩) (by dsimp only; omega) _) (by omega)
    have hRu : RowOf turnS (w5) (w.heap.size + 2) k t.parts.length (some ⟨g, 0, none⟩) (t.parts.reverse) (fun p => ps (t.parts.length - 1 - p)) := RowOf.rev rfl hgb hgl hrt5 hO5 HPs.out
    have hBu : Below w.heap.size w (w5) := (HB3.out.setCell (Nat.le_refl _) _).trans (hO5.below (by omega))
    have hone := Tr.one (Tr.node t.kind t.set (some ⟨g, 0, none⟩) t.parts.length c2 ((List.range t.parts.length).map (fun p => ps (t.parts.length - 1 - p))) t.lo t.hi t.neg)
    have HAu := Lib.hid hAu
    have HZu := Lib.hid hZu
    have HRu := Lib.hid hRu
    have HBu := Lib.hid hBu
    clear hAu hZu hRu hBu
    go_wp2_with (first
      | (refine wpList_load_row rfl 27 _ rfl w.heap.size rfl 27 (Tr.node t.kind t.set (some ⟨g, 0, none⟩) t.parts.length c2 ((List.range t.parts.length).map (fun p => ps (t.parts.length - 1 - p))) t.lo t.hi t.neg).cs.toArray (0, 0) _ HAu.out Try.underlying27 rfl (by kernel_rfl) ?_)
      | (with_reducible show wpList _ _ _ ({ dst := none, op := .store _ _ _, type := _, pos := _, after := _, guard := _ } :: _) _ _
         refine wpList_store_row rfl 27 _ _ rfl (w.heap.size + 1) (Tr.node t.kind t.set (some ⟨g, 0, none⟩) t.parts.length c2 ((List.range t.parts.length).map (fun p => ps (t.parts.length - 1 - p))) t.lo t.hi t.neg).cs.toArray rfl rfl 27 Tr.blank.cs.toArray HZu.out (by kernel_rfl) rfl hone ?_) | fail)
    have hO : Only (w.heap.size + 1) (w5) ((w5).setRow (w.heap.size + 1) (Tr.node t.kind t.set (some ⟨g, 0, none⟩) t.parts.length c2 ((List.range t.parts.length).map (fun p => ps (t.parts.length - 1 - p))) t.lo t.hi t.neg).cs.toArray) := Only.row _ _ _
    obtain ⟨m1, m2, m3⟩ := made_in (c := c2) (lo := t.lo) (hi := t.hi) (neg := t.neg) (kd := t.kind) HI.out.1.1 HI.out.1.2.1 HI.out.1.2.2.1 HI.out.1.2.2.2 (by rw [List.length_reverse]) HSl.out.1 (HRu.out.only hO (by omega))
    exact bodyPost_ret (results_cell_row Try.results30 _ _ (w.heap.size + 1) 27 (Tr.node t.kind t.set (some ⟨g, 0, none⟩) t.parts.length c2 ((List.range t.parts.length).map (fun p => ps (t.parts.length - 1 - p))) t.lo t.hi t.neg).cs.toArray (0, 0) _ rfl (HZu.out.row _) Try.underlying27 rfl (by kernel_rfl)) rfl ⟨_, rfl, m1, m2.lower (by omega), m3.trans (by rw [List.map_reverse]; show _ = Tr.node (turnKind t.kind) t.set none t.parts.length 0 (if t.kind = 3 then (t.parts.map (turnS k)).reverse else t.parts.map (turnS k)) t.lo t.hi t.neg; rw [HK.out]; rfl), HBu.out.trans (hO.below (by omega))⟩


set_option maxRecDepth 100000 in
set_option maxHeartbeats 4000000 in
theorem turned_8 (k : Nat) (ih : Makes 30 turnS k) (t : Tr) (w : World) (h : Tr.In w (k + 1) t) (hs : slimS (k + 1) t) (hk : t.kind = 8) :
    Calls Try.prog 30 #[.agg t.cs.toArray] w (Made turnS (k + 1) t w) := by
  have hn := h.2.1.1
  have HN := Lib.hid hn
  have HI := Lib.hid h
  have HIH := Lib.hid ih
  have HSl := Lib.hid hs
  obtain ⟨w2, hw2⟩ : ∃ w2, w2 = (w.alloc (.cells t.cs.toArray 27)).alloc (.cells #[.int .i64 0, .int .u64 0, .int .u64 0, .int .u64 0, .int .u64 0, .slice none 0 0, .int .i64 0, .int .i64 0, .bool false] 27) := ⟨_, rfl⟩
  have HA0 : Hid (At w2 w.heap.size 27 t.cs.toArray) := Lib.hid (by rw [hw2]; exact (At.new _ _ _).alloc _)
  have HZ0 : Hid (At w2 (w.heap.size + 1) 27 Tr.blank.cs.toArray) := Lib.hid (by rw [hw2]; exact at_new' (w.alloc (.cells t.cs.toArray 27)) (w.heap.size + 1) 27 (cs := Tr.blank.cs.toArray) (by simp))
  have HB0 : Hid (Below w.heap.size w w2) := Lib.hid (by rw [hw2]; exact below_two _ _)
  have HW2 := Lib.hid hw2
  have hsz2 : w2.heap.size = w.heap.size + 2 := by rw [hw2]; simp
  have HSz := Lib.hid hsz2
  obtain ⟨c0, c5, c6, c7, c8⟩ := At.tr_cell HA0.out
  rw [hw2] at c5
  rw [hn] at c5
  have HK := Lib.hid hk
  clear h hs ih hn hk hw2 hsz2 c0 c6 c7 c8
  go_enter Try.func30, Try.ntmps30
  go_wp2_with fail
  rw [← HW2.out]
  refine (eachAny turnS k HIH.out t _ (HI.out.next HB0.out) HSl.out).mono ?_
  rintro e w3 ⟨A, c2, ps, rfl, hA0, hrow, hb3⟩
  have HA3 := Lib.hid (HA0.out.below hb3 HA0.out.lt)
  have HZ3 := Lib.hid (HZ0.out.below hb3 HZ0.out.lt)
  have HB3 := Lib.hid (HB0.out.trans (hb3.mono HB0.out.size))
  have HR3 : Hid (RowOf turnS w3 (w.heap.size + 2) k t.parts.length A t.parts ps) := Lib.hid (by rw [← HSz.out]; exact hrow)
  have HN0 := Lib.hid hA0
  clear hb3 hrow hA0 c5
  have q5 := HA3.out.cell 5
  have f5 := HA3.out.free 5
  have c0 := HA3.out.cell 0
  have f0 := HA3.out.free 0
  have r0 : t.cs.toArray[0]? = some (.int .i64 t.kind) := rfl
  have r5 : t.cs.toArray[5]? = some (.slice t.addr t.n t.cap) := rfl
  rw [r5] at q5
  rw [r0, HK.out] at c0
  clear r0 r5
  have hAu : At ((w3.setCell ⟨w.heap.size, 5, none⟩ (.slice A t.parts.length c2)).setCell ⟨w.heap.size, 0, none⟩ (.int .i64 9)) w.heap.size 27 (Tr.node 9 t.set A t.parts.length c2 ((List.range t.parts.length).map (ps)) t.lo t.hi t.neg).cs.toArray := (HA3.out.set 5 _).set 0 _
  have hZu : At ((w3.setCell ⟨w.heap.size, 5, none⟩ (.slice A t.parts.length c2)).setCell ⟨w.heap.size, 0, none⟩ (.int .i64 9)) (w.heap.size + 1) 27 Tr.blank.cs.toArray := (HZ3.out.other (p := ⟨w.heap.size, 5, none⟩) (by dsimp only; omega) _).other (p := ⟨w.heap.size, 0, none⟩) (by dsimp only; omega) _
  have hRu : RowOf turnS ((w3.setCell ⟨w.heap.size, 5, none⟩ (.slice A t.parts.length c2)).setCell ⟨w.heap.size, 0, none⟩ (.int .i64 9)) (w.heap.size + 2) k t.parts.length A (t.parts) (ps) := HR3.out.only (((Only.refl w.heap.size w3).cell 5 _).cell 0 _) (by omega)
  have hBu : Below w.heap.size w ((w3.setCell ⟨w.heap.size, 5, none⟩ (.slice A t.parts.length c2)).setCell ⟨w.heap.size, 0, none⟩ (.int .i64 9)) := (HB3.out.setCell (Nat.le_refl _) _).setCell (Nat.le_refl _) _
  have hone := Tr.one (Tr.node 9 t.set A t.parts.length c2 ((List.range t.parts.length).map (ps)) t.lo t.hi t.neg)
  have HAu := Lib.hid hAu
  have HZu := Lib.hid hZu
  have HRu := Lib.hid hRu
  have HBu := Lib.hid hBu
  clear hAu hZu hRu hBu
  go_wp2_with (first
    | (refine wpList_load_row rfl 27 _ rfl w.heap.size rfl 27 (Tr.node 9 t.set A t.parts.length c2 ((List.range t.parts.length).map (ps)) t.lo t.hi t.neg).cs.toArray (0, 0) _ HAu.out Try.underlying27 rfl (by kernel_rfl) ?_)
    | (with_reducible show wpList _ _ _ ({ dst := none, op := .store _ _ _, type := _, pos := _, after := _, guard := _ } :: _) _ _
       refine wpList_store_row rfl 27 _ _ rfl (w.heap.size + 1) (Tr.node 9 t.set A t.parts.length c2 ((List.range t.parts.length).map (ps)) t.lo t.hi t.neg).cs.toArray rfl rfl 27 Tr.blank.cs.toArray HZu.out (by kernel_rfl) rfl hone ?_) | fail)
  have hO : Only (w.heap.size + 1) ((w3.setCell ⟨w.heap.size, 5, none⟩ (.slice A t.parts.length c2)).setCell ⟨w.heap.size, 0, none⟩ (.int .i64 9)) (((w3.setCell ⟨w.heap.size, 5, none⟩ (.slice A t.parts.length c2)).setCell ⟨w.heap.size, 0, none⟩ (.int .i64 9)).setRow (w.heap.size + 1) (Tr.node 9 t.set A t.parts.length c2 ((List.range t.parts.length).map (ps)) t.lo t.hi t.neg).cs.toArray) := Only.row _ _ _
  obtain ⟨m1, m2, m3⟩ := made_in (c := c2) (lo := t.lo) (hi := t.hi) (neg := t.neg) (kd := 9) HI.out.1.1 (by unfold I64; omega) HI.out.1.2.2.1 HI.out.1.2.2.2 (by rfl) HSl.out.1 (HRu.out.only hO (by omega))
  exact bodyPost_ret (results_cell_row Try.results30 _ _ (w.heap.size + 1) 27 (Tr.node 9 t.set A t.parts.length c2 ((List.range t.parts.length).map (ps)) t.lo t.hi t.neg).cs.toArray (0, 0) _ rfl (HZu.out.row _) Try.underlying27 rfl (by kernel_rfl)) rfl ⟨_, rfl, m1, m2.lower (by omega), m3.trans (by show _ = Tr.node (turnKind t.kind) t.set none t.parts.length 0 (if t.kind = 3 then (t.parts.map (turnS k)).reverse else t.parts.map (turnS k)) t.lo t.hi t.neg; rw [HK.out]; rfl), HBu.out.trans (hO.below (by omega))⟩


set_option maxRecDepth 100000 in
set_option maxHeartbeats 4000000 in
theorem turned_9 (k : Nat) (ih : Makes 30 turnS k) (t : Tr) (w : World) (h : Tr.In w (k + 1) t) (hs : slimS (k + 1) t) (hk : t.kind = 9) :
    Calls Try.prog 30 #[.agg t.cs.toArray] w (Made turnS (k + 1) t w) := by
  have hn := h.2.1.1
  have HN := Lib.hid hn
  have HI := Lib.hid h
  have HIH := Lib.hid ih
  have HSl := Lib.hid hs
  obtain ⟨w2, hw2⟩ : ∃ w2, w2 = (w.alloc (.cells t.cs.toArray 27)).alloc (.cells #[.int .i64 0, .int .u64 0, .int .u64 0, .int .u64 0, .int .u64 0, .slice none 0 0, .int .i64 0, .int .i64 0, .bool false] 27) := ⟨_, rfl⟩
  have HA0 : Hid (At w2 w.heap.size 27 t.cs.toArray) := Lib.hid (by rw [hw2]; exact (At.new _ _ _).alloc _)
  have HZ0 : Hid (At w2 (w.heap.size + 1) 27 Tr.blank.cs.toArray) := Lib.hid (by rw [hw2]; exact at_new' (w.alloc (.cells t.cs.toArray 27)) (w.heap.size + 1) 27 (cs := Tr.blank.cs.toArray) (by simp))
  have HB0 : Hid (Below w.heap.size w w2) := Lib.hid (by rw [hw2]; exact below_two _ _)
  have HW2 := Lib.hid hw2
  have hsz2 : w2.heap.size = w.heap.size + 2 := by rw [hw2]; simp
  have HSz := Lib.hid hsz2
  obtain ⟨c0, c5, c6, c7, c8⟩ := At.tr_cell HA0.out
  rw [hw2] at c5
  rw [hn] at c5
  have HK := Lib.hid hk
  clear h hs ih hn hk hw2 hsz2 c0 c6 c7 c8
  go_enter Try.func30, Try.ntmps30
  go_wp2_with fail
  rw [← HW2.out]
  refine (eachAny turnS k HIH.out t _ (HI.out.next HB0.out) HSl.out).mono ?_
  rintro e w3 ⟨A, c2, ps, rfl, hA0, hrow, hb3⟩
  have HA3 := Lib.hid (HA0.out.below hb3 HA0.out.lt)
  have HZ3 := Lib.hid (HZ0.out.below hb3 HZ0.out.lt)
  have HB3 := Lib.hid (HB0.out.trans (hb3.mono HB0.out.size))
  have HR3 : Hid (RowOf turnS w3 (w.heap.size + 2) k t.parts.length A t.parts ps) := Lib.hid (by rw [← HSz.out]; exact hrow)
  have HN0 := Lib.hid hA0
  clear hb3 hrow hA0 c5
  have q5 := HA3.out.cell 5
  have f5 := HA3.out.free 5
  have c0 := HA3.out.cell 0
  have f0 := HA3.out.free 0
  have r0 : t.cs.toArray[0]? = some (.int .i64 t.kind) := rfl
  have r5 : t.cs.toArray[5]? = some (.slice t.addr t.n t.cap) := rfl
  rw [r5] at q5
  rw [r0, HK.out] at c0
  clear r0 r5
  have hAu : At ((w3.setCell ⟨w.heap.size, 5, none⟩ (.slice A t.parts.length c2)).setCell ⟨w.heap.size, 0, none⟩ (.int .i64 8)) w.heap.size 27 (Tr.node 8 t.set A t.parts.length c2 ((List.range t.parts.length).map (ps)) t.lo t.hi t.neg).cs.toArray := (HA3.out.set 5 _).set 0 _
  have hZu : At ((w3.setCell ⟨w.heap.size, 5, none⟩ (.slice A t.parts.length c2)).setCell ⟨w.heap.size, 0, none⟩ (.int .i64 8)) (w.heap.size + 1) 27 Tr.blank.cs.toArray := (HZ3.out.other (p := ⟨w.heap.size, 5, none⟩) (by dsimp only; omega) _).other (p := ⟨w.heap.size, 0, none⟩) (by dsimp only; omega) _
  have hRu : RowOf turnS ((w3.setCell ⟨w.heap.size, 5, none⟩ (.slice A t.parts.length c2)).setCell ⟨w.heap.size, 0, none⟩ (.int .i64 8)) (w.heap.size + 2) k t.parts.length A (t.parts) (ps) := HR3.out.only (((Only.refl w.heap.size w3).cell 5 _).cell 0 _) (by omega)
  have hBu : Below w.heap.size w ((w3.setCell ⟨w.heap.size, 5, none⟩ (.slice A t.parts.length c2)).setCell ⟨w.heap.size, 0, none⟩ (.int .i64 8)) := (HB3.out.setCell (Nat.le_refl _) _).setCell (Nat.le_refl _) _
  have hone := Tr.one (Tr.node 8 t.set A t.parts.length c2 ((List.range t.parts.length).map (ps)) t.lo t.hi t.neg)
  have HAu := Lib.hid hAu
  have HZu := Lib.hid hZu
  have HRu := Lib.hid hRu
  have HBu := Lib.hid hBu
  clear hAu hZu hRu hBu
  go_wp2_with (first
    | (refine wpList_load_row rfl 27 _ rfl w.heap.size rfl 27 (Tr.node 8 t.set A t.parts.length c2 ((List.range t.parts.length).map (ps)) t.lo t.hi t.neg).cs.toArray (0, 0) _ HAu.out Try.underlying27 rfl (by kernel_rfl) ?_)
    | (with_reducible show wpList _ _ _ ({ dst := none, op := .store _ _ _, type := _, pos := _, after := _, guard := _ } :: _) _ _
       refine wpList_store_row rfl 27 _ _ rfl (w.heap.size + 1) (Tr.node 8 t.set A t.parts.length c2 ((List.range t.parts.length).map (ps)) t.lo t.hi t.neg).cs.toArray rfl rfl 27 Tr.blank.cs.toArray HZu.out (by kernel_rfl) rfl hone ?_) | fail)
  have hO : Only (w.heap.size + 1) ((w3.setCell ⟨w.heap.size, 5, none⟩ (.slice A t.parts.length c2)).setCell ⟨w.heap.size, 0, none⟩ (.int .i64 8)) (((w3.setCell ⟨w.heap.size, 5, none⟩ (.slice A t.parts.length c2)).setCell ⟨w.heap.size, 0, none⟩ (.int .i64 8)).setRow (w.heap.size + 1) (Tr.node 8 t.set A t.parts.length c2 ((List.range t.parts.length).map (ps)) t.lo t.hi t.neg).cs.toArray) := Only.row _ _ _
  obtain ⟨m1, m2, m3⟩ := made_in (c := c2) (lo := t.lo) (hi := t.hi) (neg := t.neg) (kd := 8) HI.out.1.1 (by unfold I64; omega) HI.out.1.2.2.1 HI.out.1.2.2.2 (by rfl) HSl.out.1 (HRu.out.only hO (by omega))
  exact bodyPost_ret (results_cell_row Try.results30 _ _ (w.heap.size + 1) 27 (Tr.node 8 t.set A t.parts.length c2 ((List.range t.parts.length).map (ps)) t.lo t.hi t.neg).cs.toArray (0, 0) _ rfl (HZu.out.row _) Try.underlying27 rfl (by kernel_rfl)) rfl ⟨_, rfl, m1, m2.lower (by omega), m3.trans (by show _ = Tr.node (turnKind t.kind) t.set none t.parts.length 0 (if t.kind = 3 then (t.parts.map (turnS k)).reverse else t.parts.map (turnS k)) t.lo t.hi t.neg; rw [HK.out]; rfl), HBu.out.trans (hO.below (by omega))⟩


set_option maxRecDepth 100000 in
set_option maxHeartbeats 4000000 in
theorem turned_10 (k : Nat) (ih : Makes 30 turnS k) (t : Tr) (w : World) (h : Tr.In w (k + 1) t) (hs : slimS (k + 1) t) (hk : t.kind = 10) :
    Calls Try.prog 30 #[.agg t.cs.toArray] w (Made turnS (k + 1) t w) := by
  have hn := h.2.1.1
  have HN := Lib.hid hn
  have HI := Lib.hid h
  have HIH := Lib.hid ih
  have HSl := Lib.hid hs
  obtain ⟨w2, hw2⟩ : ∃ w2, w2 = (w.alloc (.cells t.cs.toArray 27)).alloc (.cells #[.int .i64 0, .int .u64 0, .int .u64 0, .int .u64 0, .int .u64 0, .slice none 0 0, .int .i64 0, .int .i64 0, .bool false] 27) := ⟨_, rfl⟩
  have HA0 : Hid (At w2 w.heap.size 27 t.cs.toArray) := Lib.hid (by rw [hw2]; exact (At.new _ _ _).alloc _)
  have HZ0 : Hid (At w2 (w.heap.size + 1) 27 Tr.blank.cs.toArray) := Lib.hid (by rw [hw2]; exact at_new' (w.alloc (.cells t.cs.toArray 27)) (w.heap.size + 1) 27 (cs := Tr.blank.cs.toArray) (by simp))
  have HB0 : Hid (Below w.heap.size w w2) := Lib.hid (by rw [hw2]; exact below_two _ _)
  have HW2 := Lib.hid hw2
  have hsz2 : w2.heap.size = w.heap.size + 2 := by rw [hw2]; simp
  have HSz := Lib.hid hsz2
  obtain ⟨c0, c5, c6, c7, c8⟩ := At.tr_cell HA0.out
  rw [hw2] at c5
  rw [hn] at c5
  have HK := Lib.hid hk
  clear h hs ih hn hk hw2 hsz2 c0 c6 c7 c8
  go_enter Try.func30, Try.ntmps30
  go_wp2_with fail
  rw [← HW2.out]
  refine (eachAny turnS k HIH.out t _ (HI.out.next HB0.out) HSl.out).mono ?_
  rintro e w3 ⟨A, c2, ps, rfl, hA0, hrow, hb3⟩
  have HA3 := Lib.hid (HA0.out.below hb3 HA0.out.lt)
  have HZ3 := Lib.hid (HZ0.out.below hb3 HZ0.out.lt)
  have HB3 := Lib.hid (HB0.out.trans (hb3.mono HB0.out.size))
  have HR3 : Hid (RowOf turnS w3 (w.heap.size + 2) k t.parts.length A t.parts ps) := Lib.hid (by rw [← HSz.out]; exact hrow)
  have HN0 := Lib.hid hA0
  clear hb3 hrow hA0 c5
  have q5 := HA3.out.cell 5
  have f5 := HA3.out.free 5
  have c0 := HA3.out.cell 0
  have f0 := HA3.out.free 0
  have r0 : t.cs.toArray[0]? = some (.int .i64 t.kind) := rfl
  have r5 : t.cs.toArray[5]? = some (.slice t.addr t.n t.cap) := rfl
  rw [r5] at q5
  rw [r0, HK.out] at c0
  clear r0 r5
  have hAu : At ((w3.setCell ⟨w.heap.size, 5, none⟩ (.slice A t.parts.length c2)).setCell ⟨w.heap.size, 0, none⟩ (.int .i64 11)) w.heap.size 27 (Tr.node 11 t.set A t.parts.length c2 ((List.range t.parts.length).map (ps)) t.lo t.hi t.neg).cs.toArray := (HA3.out.set 5 _).set 0 _
  have hZu : At ((w3.setCell ⟨w.heap.size, 5, none⟩ (.slice A t.parts.length c2)).setCell ⟨w.heap.size, 0, none⟩ (.int .i64 11)) (w.heap.size + 1) 27 Tr.blank.cs.toArray := (HZ3.out.other (p := ⟨w.heap.size, 5, none⟩) (by dsimp only; omega) _).other (p := ⟨w.heap.size, 0, none⟩) (by dsimp only; omega) _
  have hRu : RowOf turnS ((w3.setCell ⟨w.heap.size, 5, none⟩ (.slice A t.parts.length c2)).setCell ⟨w.heap.size, 0, none⟩ (.int .i64 11)) (w.heap.size + 2) k t.parts.length A (t.parts) (ps) := HR3.out.only (((Only.refl w.heap.size w3).cell 5 _).cell 0 _) (by omega)
  have hBu : Below w.heap.size w ((w3.setCell ⟨w.heap.size, 5, none⟩ (.slice A t.parts.length c2)).setCell ⟨w.heap.size, 0, none⟩ (.int .i64 11)) := (HB3.out.setCell (Nat.le_refl _) _).setCell (Nat.le_refl _) _
  have hone := Tr.one (Tr.node 11 t.set A t.parts.length c2 ((List.range t.parts.length).map (ps)) t.lo t.hi t.neg)
  have HAu := Lib.hid hAu
  have HZu := Lib.hid hZu
  have HRu := Lib.hid hRu
  have HBu := Lib.hid hBu
  clear hAu hZu hRu hBu
  go_wp2_with (first
    | (refine wpList_load_row rfl 27 _ rfl w.heap.size rfl 27 (Tr.node 11 t.set A t.parts.length c2 ((List.range t.parts.length).map (ps)) t.lo t.hi t.neg).cs.toArray (0, 0) _ HAu.out Try.underlying27 rfl (by kernel_rfl) ?_)
    | (with_reducible show wpList _ _ _ ({ dst := none, op := .store _ _ _, type := _, pos := _, after := _, guard := _ } :: _) _ _
       refine wpList_store_row rfl 27 _ _ rfl (w.heap.size + 1) (Tr.node 11 t.set A t.parts.length c2 ((List.range t.parts.length).map (ps)) t.lo t.hi t.neg).cs.toArray rfl rfl 27 Tr.blank.cs.toArray HZu.out (by kernel_rfl) rfl hone ?_) | fail)
  have hO : Only (w.heap.size + 1) ((w3.setCell ⟨w.heap.size, 5, none⟩ (.slice A t.parts.length c2)).setCell ⟨w.heap.size, 0, none⟩ (.int .i64 11)) (((w3.setCell ⟨w.heap.size, 5, none⟩ (.slice A t.parts.length c2)).setCell ⟨w.heap.size, 0, none⟩ (.int .i64 11)).setRow (w.heap.size + 1) (Tr.node 11 t.set A t.parts.length c2 ((List.range t.parts.length).map (ps)) t.lo t.hi t.neg).cs.toArray) := Only.row _ _ _
  obtain ⟨m1, m2, m3⟩ := made_in (c := c2) (lo := t.lo) (hi := t.hi) (neg := t.neg) (kd := 11) HI.out.1.1 (by unfold I64; omega) HI.out.1.2.2.1 HI.out.1.2.2.2 (by rfl) HSl.out.1 (HRu.out.only hO (by omega))
  exact bodyPost_ret (results_cell_row Try.results30 _ _ (w.heap.size + 1) 27 (Tr.node 11 t.set A t.parts.length c2 ((List.range t.parts.length).map (ps)) t.lo t.hi t.neg).cs.toArray (0, 0) _ rfl (HZu.out.row _) Try.underlying27 rfl (by kernel_rfl)) rfl ⟨_, rfl, m1, m2.lower (by omega), m3.trans (by show _ = Tr.node (turnKind t.kind) t.set none t.parts.length 0 (if t.kind = 3 then (t.parts.map (turnS k)).reverse else t.parts.map (turnS k)) t.lo t.hi t.neg; rw [HK.out]; rfl), HBu.out.trans (hO.below (by omega))⟩


set_option maxRecDepth 100000 in
set_option maxHeartbeats 4000000 in
theorem turned_11 (k : Nat) (ih : Makes 30 turnS k) (t : Tr) (w : World) (h : Tr.In w (k + 1) t) (hs : slimS (k + 1) t) (hk : t.kind = 11) :
    Calls Try.prog 30 #[.agg t.cs.toArray] w (Made turnS (k + 1) t w) := by
  have hn := h.2.1.1
  have HN := Lib.hid hn
  have HI := Lib.hid h
  have HIH := Lib.hid ih
  have HSl := Lib.hid hs
  obtain ⟨w2, hw2⟩ : ∃ w2, w2 = (w.alloc (.cells t.cs.toArray 27)).alloc (.cells #[.int .i64 0, .int .u64 0, .int .u64 0, .int .u64 0, .int .u64 0, .slice none 0 0, .int .i64 0, .int .i64 0, .bool false] 27) := ⟨_, rfl⟩
  have HA0 : Hid (At w2 w.heap.size 27 t.cs.toArray) := Lib.hid (by rw [hw2]; exact (At.new _ _ _).alloc _)
  have HZ0 : Hid (At w2 (w.heap.size + 1) 27 Tr.blank.cs.toArray) := Lib.hid (by rw [hw2]; exact at_new' (w.alloc (.cells t.cs.toArray 27)) (w.heap.size + 1) 27 (cs := Tr.blank.cs.toArray) (by simp))
  have HB0 : Hid (Below w.heap.size w w2) := Lib.hid (by rw [hw2]; exact below_two _ _)
  have HW2 := Lib.hid hw2
  have hsz2 : w2.heap.size = w.heap.size + 2 := by rw [hw2]; simp
  have HSz := Lib.hid hsz2
  obtain ⟨c0, c5, c6, c7, c8⟩ := At.tr_cell HA0.out
  rw [hw2] at c5
  rw [hn] at c5
  have HK := Lib.hid hk
  clear h hs ih hn hk hw2 hsz2 c0 c6 c7 c8
  go_enter Try.func30, Try.ntmps30
  go_wp2_with fail
  rw [← HW2.out]
  refine (eachAny turnS k HIH.out t _ (HI.out.next HB0.out) HSl.out).mono ?_
  rintro e w3 ⟨A, c2, ps, rfl, hA0, hrow, hb3⟩
  have HA3 := Lib.hid (HA0.out.below hb3 HA0.out.lt)
  have HZ3 := Lib.hid (HZ0.out.below hb3 HZ0.out.lt)
  have HB3 := Lib.hid (HB0.out.trans (hb3.mono HB0.out.size))
  have HR3 : Hid (RowOf turnS w3 (w.heap.size + 2) k t.parts.length A t.parts ps) := Lib.hid (by rw [← HSz.out]; exact hrow)
  have HN0 := Lib.hid hA0
  clear hb3 hrow hA0 c5
  have q5 := HA3.out.cell 5
  have f5 := HA3.out.free 5
  have c0 := HA3.out.cell 0
  have f0 := HA3.out.free 0
  have r0 : t.cs.toArray[0]? = some (.int .i64 t.kind) := rfl
  have r5 : t.cs.toArray[5]? = some (.slice t.addr t.n t.cap) := rfl
  rw [r5] at q5
  rw [r0, HK.out] at c0
  clear r0 r5
  have hAu : At ((w3.setCell ⟨w.heap.size, 5, none⟩ (.slice A t.parts.length c2)).setCell ⟨w.heap.size, 0, none⟩ (.int .i64 10)) w.heap.size 27 (Tr.node 10 t.set A t.parts.length c2 ((List.range t.parts.length).map (ps)) t.lo t.hi t.neg).cs.toArray := (HA3.out.set 5 _).set 0 _
  have hZu : At ((w3.setCell ⟨w.heap.size, 5, none⟩ (.slice A t.parts.length c2)).setCell ⟨w.heap.size, 0, none⟩ (.int .i64 10)) (w.heap.size + 1) 27 Tr.blank.cs.toArray := (HZ3.out.other (p := ⟨w.heap.size, 5, none⟩) (by dsimp only; omega) _).other (p := ⟨w.heap.size, 0, none⟩) (by dsimp only; omega) _
  have hRu : RowOf turnS ((w3.setCell ⟨w.heap.size, 5, none⟩ (.slice A t.parts.length c2)).setCell ⟨w.heap.size, 0, none⟩ (.int .i64 10)) (w.heap.size + 2) k t.parts.length A (t.parts) (ps) := HR3.out.only (((Only.refl w.heap.size w3).cell 5 _).cell 0 _) (by omega)
  have hBu : Below w.heap.size w ((w3.setCell ⟨w.heap.size, 5, none⟩ (.slice A t.parts.length c2)).setCell ⟨w.heap.size, 0, none⟩ (.int .i64 10)) := (HB3.out.setCell (Nat.le_refl _) _).setCell (Nat.le_refl _) _
  have hone := Tr.one (Tr.node 10 t.set A t.parts.length c2 ((List.range t.parts.length).map (ps)) t.lo t.hi t.neg)
  have HAu := Lib.hid hAu
  have HZu := Lib.hid hZu
  have HRu := Lib.hid hRu
  have HBu := Lib.hid hBu
  clear hAu hZu hRu hBu
  go_wp2_with (first
    | (refine wpList_load_row rfl 27 _ rfl w.heap.size rfl 27 (Tr.node 10 t.set A t.parts.length c2 ((List.range t.parts.length).map (ps)) t.lo t.hi t.neg).cs.toArray (0, 0) _ HAu.out Try.underlying27 rfl (by kernel_rfl) ?_)
    | (with_reducible show wpList _ _ _ ({ dst := none, op := .store _ _ _, type := _, pos := _, after := _, guard := _ } :: _) _ _
       refine wpList_store_row rfl 27 _ _ rfl (w.heap.size + 1) (Tr.node 10 t.set A t.parts.length c2 ((List.range t.parts.length).map (ps)) t.lo t.hi t.neg).cs.toArray rfl rfl 27 Tr.blank.cs.toArray HZu.out (by kernel_rfl) rfl hone ?_) | fail)
  have hO : Only (w.heap.size + 1) ((w3.setCell ⟨w.heap.size, 5, none⟩ (.slice A t.parts.length c2)).setCell ⟨w.heap.size, 0, none⟩ (.int .i64 10)) (((w3.setCell ⟨w.heap.size, 5, none⟩ (.slice A t.parts.length c2)).setCell ⟨w.heap.size, 0, none⟩ (.int .i64 10)).setRow (w.heap.size + 1) (Tr.node 10 t.set A t.parts.length c2 ((List.range t.parts.length).map (ps)) t.lo t.hi t.neg).cs.toArray) := Only.row _ _ _
  obtain ⟨m1, m2, m3⟩ := made_in (c := c2) (lo := t.lo) (hi := t.hi) (neg := t.neg) (kd := 10) HI.out.1.1 (by unfold I64; omega) HI.out.1.2.2.1 HI.out.1.2.2.2 (by rfl) HSl.out.1 (HRu.out.only hO (by omega))
  exact bodyPost_ret (results_cell_row Try.results30 _ _ (w.heap.size + 1) 27 (Tr.node 10 t.set A t.parts.length c2 ((List.range t.parts.length).map (ps)) t.lo t.hi t.neg).cs.toArray (0, 0) _ rfl (HZu.out.row _) Try.underlying27 rfl (by kernel_rfl)) rfl ⟨_, rfl, m1, m2.lower (by omega), m3.trans (by show _ = Tr.node (turnKind t.kind) t.set none t.parts.length 0 (if t.kind = 3 then (t.parts.map (turnS k)).reverse else t.parts.map (turnS k)) t.lo t.hi t.neg; rw [HK.out]; rfl), HBu.out.trans (hO.below (by omega))⟩


set_option maxRecDepth 100000 in
set_option maxHeartbeats 4000000 in
theorem turned_o (k : Nat) (ih : Makes 30 turnS k) (t : Tr) (w : World) (h : Tr.In w (k + 1) t) (hs : slimS (k + 1) t) (hk : ¬ t.kind = 3 ∧ ¬ t.kind = 8 ∧ ¬ t.kind = 9 ∧ ¬ t.kind = 10 ∧ ¬ t.kind = 11) :
    Calls Try.prog 30 #[.agg t.cs.toArray] w (Made turnS (k + 1) t w) := by
  have hn := h.2.1.1
  have HN := Lib.hid hn
  have HI := Lib.hid h
  have HIH := Lib.hid ih
  have HSl := Lib.hid hs
  obtain ⟨w2, hw2⟩ : ∃ w2, w2 = (w.alloc (.cells t.cs.toArray 27)).alloc (.cells #[.int .i64 0, .int .u64 0, .int .u64 0, .int .u64 0, .int .u64 0, .slice none 0 0, .int .i64 0, .int .i64 0, .bool false] 27) := ⟨_, rfl⟩
  have HA0 : Hid (At w2 w.heap.size 27 t.cs.toArray) := Lib.hid (by rw [hw2]; exact (At.new _ _ _).alloc _)
  have HZ0 : Hid (At w2 (w.heap.size + 1) 27 Tr.blank.cs.toArray) := Lib.hid (by rw [hw2]; exact at_new' (w.alloc (.cells t.cs.toArray 27)) (w.heap.size + 1) 27 (cs := Tr.blank.cs.toArray) (by simp))
  have HB0 : Hid (Below w.heap.size w w2) := Lib.hid (by rw [hw2]; exact below_two _ _)
  have HW2 := Lib.hid hw2
  have hsz2 : w2.heap.size = w.heap.size + 2 := by rw [hw2]; simp
  have HSz := Lib.hid hsz2
  obtain ⟨c0, c5, c6, c7, c8⟩ := At.tr_cell HA0.out
  rw [hw2] at c5
  rw [hn] at c5
  have k3 := (int_ne (show ¬ t.kind = 3 by omega)).1
  have k8 := (int_ne (show ¬ t.kind = 8 by omega)).1
  have k9 := (int_ne (show ¬ t.kind = 9 by omega)).1
  have k10 := (int_ne (show ¬ t.kind = 10 by omega)).1
  have k11 := (int_ne (show ¬ t.kind = 11 by omega)).1
  have HK := Lib.hid hk
  clear h hs ih hn hk hw2 hsz2 c0 c6 c7 c8
  go_enter Try.func30, Try.ntmps30
  go_wp2_with fail
  rw [← HW2.out]
  refine (eachAny turnS k HIH.out t _ (HI.out.next HB0.out) HSl.out).mono ?_
  rintro e w3 ⟨A, c2, ps, rfl, hA0, hrow, hb3⟩
  have HA3 := Lib.hid (HA0.out.below hb3 HA0.out.lt)
  have HZ3 := Lib.hid (HZ0.out.below hb3 HZ0.out.lt)
  have HB3 := Lib.hid (HB0.out.trans (hb3.mono HB0.out.size))
  have HR3 : Hid (RowOf turnS w3 (w.heap.size + 2) k t.parts.length A t.parts ps) := Lib.hid (by rw [← HSz.out]; exact hrow)
  have HN0 := Lib.hid hA0
  clear hb3 hrow hA0 c5
  have q5 := HA3.out.cell 5
  have f5 := HA3.out.free 5
  have c0 := HA3.out.cell 0
  have f0 := HA3.out.free 0
  have r0 : t.cs.toArray[0]? = some (.int .i64 t.kind) := rfl
  have r5 : t.cs.toArray[5]? = some (.slice t.addr t.n t.cap) := rfl
  rw [r5] at q5
  rw [r0] at c0
  clear r0 r5
  have hAu : At (w3.setCell ⟨w.heap.size, 5, none⟩ (.slice A t.parts.length c2)) w.heap.size 27 (Tr.node t.kind t.set A t.parts.length c2 ((List.range t.parts.length).map (ps)) t.lo t.hi t.neg).cs.toArray := HA3.out.set 5 _
  have hZu : At (w3.setCell ⟨w.heap.size, 5, none⟩ (.slice A t.parts.length c2)) (w.heap.size + 1) 27 Tr.blank.cs.toArray := HZ3.out.other (p := ⟨w.heap.size, 5, none⟩) (by dsimp only; omega) _
  have hRu : RowOf turnS (w3.setCell ⟨w.heap.size, 5, none⟩ (.slice A t.parts.length c2)) (w.heap.size + 2) k t.parts.length A (t.parts) (ps) := HR3.out.only ((Only.refl w.heap.size w3).cell 5 _) (by omega)
  have hBu : Below w.heap.size w (w3.setCell ⟨w.heap.size, 5, none⟩ (.slice A t.parts.length c2)) := HB3.out.setCell (Nat.le_refl _) _
  have hone := Tr.one (Tr.node t.kind t.set A t.parts.length c2 ((List.range t.parts.length).map (ps)) t.lo t.hi t.neg)
  have HAu := Lib.hid hAu
  have HZu := Lib.hid hZu
  have HRu := Lib.hid hRu
  have HBu := Lib.hid hBu
  clear hAu hZu hRu hBu
  go_wp2_with (first
    | (refine wpList_load_row rfl 27 _ rfl w.heap.size rfl 27 (Tr.node t.kind t.set A t.parts.length c2 ((List.range t.parts.length).map (ps)) t.lo t.hi t.neg).cs.toArray (0, 0) _ HAu.out Try.underlying27 rfl (by kernel_rfl) ?_)
    | (with_reducible show wpList _ _ _ ({ dst := none, op := .store _ _ _, type := _, pos := _, after := _, guard := _ } :: _) _ _
       refine wpList_store_row rfl 27 _ _ rfl (w.heap.size + 1) (Tr.node t.kind t.set A t.parts.length c2 ((List.range t.parts.length).map (ps)) t.lo t.hi t.neg).cs.toArray rfl rfl 27 Tr.blank.cs.toArray HZu.out (by kernel_rfl) rfl hone ?_) | fail)
  have hO : Only (w.heap.size + 1) (w3.setCell ⟨w.heap.size, 5, none⟩ (.slice A t.parts.length c2)) ((w3.setCell ⟨w.heap.size, 5, none⟩ (.slice A t.parts.length c2)).setRow (w.heap.size + 1) (Tr.node t.kind t.set A t.parts.length c2 ((List.range t.parts.length).map (ps)) t.lo t.hi t.neg).cs.toArray) := Only.row _ _ _
  obtain ⟨m1, m2, m3⟩ := made_in (c := c2) (lo := t.lo) (hi := t.hi) (neg := t.neg) (kd := t.kind) HI.out.1.1 HI.out.1.2.1 HI.out.1.2.2.1 HI.out.1.2.2.2 (by rfl) HSl.out.1 (HRu.out.only hO (by omega))
  exact bodyPost_ret (results_cell_row Try.results30 _ _ (w.heap.size + 1) 27 (Tr.node t.kind t.set A t.parts.length c2 ((List.range t.parts.length).map (ps)) t.lo t.hi t.neg).cs.toArray (0, 0) _ rfl (HZu.out.row _) Try.underlying27 rfl (by kernel_rfl)) rfl ⟨_, rfl, m1, m2.lower (by omega), m3.trans (by show _ = Tr.node (turnKind t.kind) t.set none t.parts.length 0 (if t.kind = 3 then (t.parts.map (turnS k)).reverse else t.parts.map (turnS k)) t.lo t.hi t.neg; rw [if_neg (by have := HK.out; omega), turnKind_other (by have := HK.out; omega)]), HBu.out.trans (hO.below (by omega))⟩


theorem turned : ∀ k, Makes 30 turnS k
  | 0 => fun _ _ h => h.elim
  | k + 1 => fun t w h hs => by
    have ih := turned k
    by_cases h3 : t.kind = 3
    · exact turned_3 k ih t w h hs h3
    by_cases h8 : t.kind = 8
    · exact turned_8 k ih t w h hs h8
    by_cases h9 : t.kind = 9
    · exact turned_9 k ih t w h hs h9
    by_cases h10 : t.kind = 10
    · exact turned_10 k ih t w h hs h10
    by_cases h11 : t.kind = 11
    · exact turned_11 k ih t w h hs h11
    exact turned_o k ih t w h hs ⟨h3, h8, h9, h10, h11⟩

end Go.Proofs.Ytignekgckkdgiaa
