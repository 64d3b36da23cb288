/- What package print writes of a pattern within a bracket, and of several. -/
import Derived.Test.YtibmcdgnponpmaaDoorPrintB
import Derived.Test.YtibmcdgnponpmaaDoorTreeKit
import Derived.Test.YtibmcdgnponpmaaDoorMa
namespace Go.Proofs.YtibmcdgnponpmaaDoor
open Go.RowKit
set_option linter.unusedSimpArgs false
set_option linter.unusedVariables false

/-- A pattern lies in none of the builder's blocks. -/
def OffB (b : Nat) (w : World) (k : Nat) (t : Tr) : Prop := Tr.Off b k t ∧ ∀ g, bufOf w b = some g → Tr.Off g k t
theorem OffB.part {b : Nat} {w : World} {k : Nat} {t p : Tr} (h : OffB b w (k + 1) t) (hp : p ∈ t.parts) : OffB b w k p := ⟨h.1.2 p hp, fun g hg => (h.2 g hg).2 p hp⟩
theorem Tr.In.keepB {b : Nat} {w w' : World} (hk : KeepB b w w') : ∀ (k : Nat) (t : Tr), OffB b w k t → Tr.In w k t → Tr.In w' k t
  | 0, _, _, h => h.elim
  | k + 1, t, ho, h => by
    obtain ⟨h0, hn, hc, hp⟩ := h
    refine ⟨h0, hn, fun h0 => ?_, fun j hj => Tr.In.keepB hk k _ (ho.part (List.getElem_mem hj)) (hp j hj)⟩
    obtain ⟨g, off, e, hlt, hr⟩ := hc h0
    have hb : g ≠ b := ho.1.1 h0 g off e
    have hb2 : some g ≠ bufOf w b := fun q => (ho.2 g q.symm).1 h0 g off e rfl
    refine ⟨g, off, e, Nat.lt_of_lt_of_le hlt hk.size, fun j hj i v hv => ?_⟩
    have := hr j hj i v hv
    rw [World.cell?_of_block (w := w) (hk.block g hlt hb hb2)]
    exact this
theorem OffB.keepB {b k : Nat} {w w' : World} {t : Tr} (h : OffB b w k t) (hk : KeepB b w w') (hi : Tr.In w k t) : OffB b w' k t := by
  refine ⟨h.1, fun g hg => ?_⟩
  rcases hk.buf with q | q
  · exact h.2 g (q ▸ hg)
  · exact Tr.Off.new (q g hg) k t hi
theorem range_keepB {b g o : Nat} {w w' : World} {cs : List Value} (h : w.rangeAt g o cs) (hk : KeepB b w w') (hg : g < w.heap.size) (h1 : g ≠ b) (h2 : some g ≠ bufOf w b) : w'.rangeAt g o cs := fun j v hv => by
  have := h j v hv
  rw [World.cell?_of_block (w := w) (hk.block g hg h1 h2)]
  exact this
/-- What is asked before a pattern is written. -/
structure Pre (b : Nat) (w : World) (k : Nat) (t : Tr) : Prop where
  lies : Tr.In w k t
  off : OffB b w k t
  wrt : wrtS k t
  tab : Tab w
theorem Pre.keepB {b k : Nat} {w w' : World} {t : Tr} {x : ByteArray} (h : Pre b w k t) (hk : KeepB b w w') (hb : Bd w b x) (hg : 0 < b) : Pre b w' k t :=
  ⟨Tr.In.keepB hk k t h.off h.lies, h.off.keepB hk h.lies, h.wrt, h.tab.keepB hk hb hg⟩
def Writes (b k : Nat) : Prop := ∀ (t : Tr) (x : ByteArray) (w : World), Pre b w k t → Bd w b x → x.size + (textS k t).size + (4000 + 20 * k) ≤ 1000000000 →
  Calls Tryd.prog 12 #[.pointer (some ⟨b, 0, none⟩), .agg t.cs.toArray] w (Wrote b x (textS k t) w)

set_option maxRecDepth 100000 in
set_option maxHeartbeats 4000000 in
theorem pWithin (b k : Nat) (hgb : 0 < b) (ih : Writes b k) (o : ByteArray) (t : Tr) (x : ByteArray) (w : World) (h : Pre b w k t) (hb : Bd w b x) (hs : x.size + o.size + (textS k t).size + (4010 + 20 * k) ≤ 1000000000) :
    Calls Tryd.prog 26 #[.pointer (some ⟨b, 0, none⟩), .string o, .agg t.cs.toArray] w (Wrote b x (o ++ textS k t ++ ⟨#[41]⟩) w) := by
  obtain ⟨w0, hw0⟩ : ∃ w0, w0 = w.alloc (.cells t.cs.toArray 27) := ⟨_, rfl⟩
  have hb0 : Below w.heap.size w w0 := by rw [hw0]; exact (Below.refl _ _).alloc (Nat.le_refl _) _
  have hk0 := KeepB.of hb0 hb.lt
  have HBd := Lib.hid (hb.next hb0)
  have HP0 := Lib.hid (h.keepB hk0 hb hgb)
  have HK0 := Lib.hid hk0
  have HBox : Hid (At w0 w.heap.size 27 t.cs.toArray) := Lib.hid (by rw [hw0]; exact At.new _ _ _)
  have HOff : Hid (w.heap.size ≠ b ∧ some w.heap.size ≠ bufOf w0 b) := Lib.hid (by
    have h1 := hb.off (Nat.le_refl w.heap.size)
    have e : bufOf w0 b = bufOf w b := bufOf_same (hb0.block b hb.lt)
    rw [e]; exact h1)
  have HI := Lib.hid ih
  have HW0 := Lib.hid hw0
  clear h hb hb0 hw0 hk0 ih
  go_enter Tryd.func26, Tryd.ntmps26
  go_wp2_with fail
  rw [← HW0.out]
  refine (bWriteString b x o _ HBd.out (by omega)).mono ?_
  rintro e w1 ⟨rfl, h1, hk1⟩
  have HB1 := Lib.hid h1
  have HK1 := Lib.hid (HK0.out.trans hk1)
  have HP1 := Lib.hid (HP0.out.keepB hk1 HBd.out hgb)
  have HBox1 := Lib.hid (At.keepB HBox.out hk1 HOff.out.1 HOff.out.2)
  have HSz : Hid ((x ++ o).size + (textS k t).size + (4000 + 20 * k) ≤ 1000000000) := Lib.hid (by rw [size_app]; omega)
  clear h1 hk1
  go_wp2_with (first
    | (with_reducible show wpList _ _ _ ({ dst := _, op := .load 27 _, type := _, pos := _, after := _, guard := _ } :: _) _ _
       refine wpList_load_row rfl 27 _ rfl w.heap.size rfl 27 t.cs.toArray (0, 0) _ HBox1.out Tryd.underlying27 rfl (by kernel_rfl) ?_)
    | fail)
  refine (HI.out t (x ++ o) w1 HP1.out HB1.out HSz.out).mono ?_
  rintro e w2 ⟨rfl, h2, hk2⟩
  have HB2 := Lib.hid h2
  have HK2 := Lib.hid (HK1.out.trans hk2)
  clear h2 hk2
  go_wp2_with fail
  refine (bWriteByte b _ 41 41 rfl _ HB2.out (by rw [size_app, size_app]; omega)).mono ?_
  rintro e w3 ⟨rfl, h3, hk3⟩
  have HB3 := Lib.hid h3
  have HK3 := Lib.hid (HK2.out.trans hk3)
  clear h3 hk3
  go_wp2_with fail
  go_end0
  refine ⟨rfl, ?_, HK3.out⟩
  have := HB3.out
  simp only [app_app] at this ⊢
  exact this

/-- The first j of several. -/
def rowOf (sep : ByteArray) (k : Nat) (l : List Tr) (j : Nat) : ByteArray := rowT sep ((l.take j).map (textS k))
theorem rowOf_one {sep : ByteArray} {k : Nat} {l : List Tr} (h : 0 < l.length) : rowOf sep k l (0 + 1) = brkT (textS k l[0]) := by
  unfold rowOf; rw [List.take_succ_eq_append_getElem h, List.take_zero, List.nil_append, List.map_singleton, rowT_one]
theorem rowOf_succ {sep : ByteArray} {k j : Nat} {l : List Tr} (h : j < l.length) (h0 : 0 < j) : rowOf sep k l (j + 1) = rowOf sep k l j ++ sep ++ brkT (textS k l[j]) := by
  unfold rowOf; rw [List.take_succ_eq_append_getElem h, List.map_append, List.map_singleton, rowT_snoc _ _ _ (by
    intro e
    have := congrArg List.length e
    rw [List.length_map, List.length_take, List.length_nil] at this
    omega)]
theorem rowOf_le (sep : ByteArray) (k : Nat) (l : List Tr) (j : Nat) : (rowOf sep k l j).size ≤ (rowT sep (l.map (textS k))).size := by
  have := rowT_le sep ((l.take j).map (textS k)) ((l.drop j).map (textS k))
  rw [← List.map_append, List.take_append_drop] at this
  exact this

set_option maxRecDepth 100000 in
set_option maxHeartbeats 4000000 in
theorem pParts (b k : Nat) (hgb : 0 < b) (ih : Writes b k) (sep : ByteArray) (t : Tr) (x : ByteArray) (w : World) (h : Pre b w (k + 1) t) (hb : Bd w b x) (hs : x.size + (rowT sep (t.parts.map (textS k))).size + sep.size + (4010 + 20 * k) ≤ 1000000000) :
    Calls Tryd.prog 25 #[.pointer (some ⟨b, 0, none⟩), .slice t.addr t.n t.cap, .string sep] w (Wrote b x (rowT sep (t.parts.map (textS k))) w) := by
  have hn := h.lies.2.1.1
  have hmax : t.parts.length ≤ 9223372036854775807 := by have := h.lies.2.1; omega
  rw [hn]
  have HPre := Lib.hid h
  have HBd := Lib.hid hb
  have HI := Lib.hid ih
  have HN := Lib.hid hn
  have HLb : Hid (b < w.heap.size) := Lib.hid hb.lt
  clear h hb ih hn
  go_enter Tryd.func25, Tryd.ntmps25
  go_wp2_with fail
  go_loopw [10] (fun i wr => ∃ (j : Nat), j ≤ t.parts.length ∧ i = .int .i64 j ∧ Hid (Bd wr b (x ++ rowOf sep k t.parts j)) ∧ Hid (KeepB b w wr)) (fun i _ => t.parts.length - (intOf i).toNat)
  case atStart => exact ⟨0, Nat.zero_le _, rfl, Lib.hid (by show Bd w b (x ++ noT); rw [app_no]; exact HBd.out), Lib.hid (KeepB.refl _ _)⟩
  case round =>
    obtain ⟨j, hj, rfl, HX, HK⟩ := hrel
    by_cases hlt : j < t.parts.length
    · obtain ⟨g, off, ha, hg, hr⟩ := HPre.out.lies.2.2.1 (by rw [HN.out]; omega)
      have hgb1 : g ≠ b := HPre.out.off.1.1 (by rw [HN.out]; omega) g off ha
      have hgb2 : some g ≠ bufOf w b := fun q => (HPre.out.off.2 g q.symm).1 (by rw [HN.out]; omega) g off ha rfl
      have HRg := Lib.hid (range_keepB (hr j hlt) HK.out hg hgb1 hgb2)
      have hpart : Pre b w k t.parts[j] := ⟨HPre.out.lies.2.2.2 j hlt, HPre.out.off.part (List.getElem_mem hlt), HPre.out.wrt.2.2.2 _ (List.getElem_mem hlt), HPre.out.tab⟩
      obtain ⟨p, hp⟩ : ∃ p, t.parts[j] = p := ⟨_, rfl⟩
      rw [hp] at hpart HRg
      have HPt := Lib.hid (hpart.keepB HK.out HBd.out hgb)
      have hbx := boxW_next wr p
      have HX3 := Lib.hid (HX.out.next hbx)
      have hk3 := KeepB.of hbx HX.out.lt
      have HK3 := Lib.hid (HK.out.trans hk3)
      have HPt3 := Lib.hid (HPt.out.keepB hk3 HX.out hgb)
      have HBox := Lib.hid (boxW_at wr p)
      have HOff : Hid (wr.heap.size ≠ b ∧ some wr.heap.size ≠ bufOf (boxW wr p) b) := Lib.hid (by
        have h1 := HX.out.off (Nat.le_refl wr.heap.size)
        rw [bufOf_same (hbx.block b HX.out.lt)]; exact h1)
      have hone := Tr.one p
      have hle := rowOf_le sep k t.parts j
      have hle2 : (textS k p).size ≤ (rowT sep (t.parts.map (textS k))).size := rowT_mem sep (List.mem_map.2 ⟨p, by rw [← hp]; exact List.getElem_mem hlt, rfl⟩)
      have hle3 := rowOf_le sep k t.parts (j + 1)
      have HLe := Lib.hid (And.intro hle (And.intro hle2 hle3))
      have HPj := Lib.hid hp
      have hjz : (0 : Int) ≤ (j : Int) := by omega
      have hjn : (j : Int) < (t.parts.length : Int) := by omega
      rw [ha]
      clear hr hg hgb1 hgb2 hpart hbx hk3 hle hle2 hle3 ha hp
      by_cases hj0 : 0 < j
      · have dj : decide ((0 : Int) < (j : Int)) = true := decide_eq_true (by omega)
        have HRow : Hid (x ++ rowOf sep k t.parts j ++ sep ++ (⟨#[40]⟩ ++ textS k p ++ ⟨#[41]⟩) = x ++ rowOf sep k t.parts (j + 1)) := Lib.hid (by
          rw [rowOf_succ hlt hj0, HPj.out]
          unfold brkT
          simp only [app_app])
        go_wp2_with (first
          | (with_reducible show wpList _ _ _ ({ dst := _, op := .load 27 _, type := _, pos := _, after := _, guard := _ } :: _) _ _
             refine wpList_load_mid rfl 27 _ rfl g (off + j * 9) rfl p.cs _ HRg.out Tryd.underlying27 rfl (by rw [Tr.cs_length]; kernel_rfl) ?_)
          | (with_reducible show wpList _ _ _ ({ dst := none, op := .store 27 _ _, type := _, pos := _, after := _, guard := _ } :: _) _ _
             refine wpList_store_row rfl 27 _ _ rfl wr.heap.size p.cs.toArray rfl rfl 27 Tr.blank.cs.toArray (At.new _ _ _) (by kernel_rfl) rfl hone ?_
             first | change wpList _ _ _ _ _ (boxW wr p) | change Exit.then _ _ _ _ (boxW wr p))
          | fail)
        refine (bWriteString b _ sep _ HX3.out (by rw [size_app]; have := HLe.out.1; omega)).mono ?_
        rintro e w4 ⟨rfl, h4, hk4⟩
        have HX4 := Lib.hid h4
        have HK4 := Lib.hid (HK3.out.trans hk4)
        have HPt4 := Lib.hid (HPt3.out.keepB hk4 HX3.out hgb)
        have HBox4 := Lib.hid (At.keepB HBox.out hk4 HOff.out.1 HOff.out.2)
        clear h4 hk4
        go_wp2_with (first
          | (with_reducible show wpList _ _ _ ({ dst := _, op := .load 27 _, type := _, pos := _, after := _, guard := _ } :: _) _ _
             refine wpList_load_row rfl 27 _ rfl wr.heap.size rfl 27 p.cs.toArray (0, 0) _ HBox4.out Tryd.underlying27 rfl (by kernel_rfl) ?_)
          | fail)
        refine (pWithin b k hgb HI.out ⟨#[40]⟩ p _ w4 HPt4.out HX4.out (by
          have h1 := HLe.out.2.2
          rw [rowOf_succ hlt hj0, HPj.out, size_app, size_app, brkT_size] at h1
          rw [size_app, size_app]
          show x.size + (rowOf sep k t.parts j).size + sep.size + 1 + (textS k p).size + (4010 + 20 * k) ≤ _
          omega)).mono ?_
        rintro e w5 ⟨rfl, h5, hk5⟩
        have HX5 : Hid (Bd w5 b (x ++ rowOf sep k t.parts (j + 1))) := Lib.hid (by rw [← HRow.out]; exact h5)
        have HK5 := Lib.hid (HK4.out.trans hk5)
        clear h5 hk5
        go_wp2_with fail
        exact ⟨⟨j + 1, by omega, by go_num, HX5, HK5⟩, by simp [intOf]; omega⟩
      · have dj : decide ((0 : Int) < (j : Int)) = false := decide_eq_false (by omega)
        have HRow : Hid (x ++ rowOf sep k t.parts j ++ (⟨#[40]⟩ ++ textS k p ++ ⟨#[41]⟩) = x ++ rowOf sep k t.parts (j + 1)) := Lib.hid (by
          obtain rfl : j = 0 := by omega
          rw [rowOf_one hlt, HPj.out]
          show x ++ noT ++ _ = _
          rw [app_no]; rfl)
        go_wp2_with (first
          | (with_reducible show wpList _ _ _ ({ dst := none, op := .store 27 _ _, type := _, pos := _, after := _, guard := _ } :: _) _ _
             refine wpList_store_row rfl 27 _ _ rfl wr.heap.size p.cs.toArray rfl rfl 27 Tr.blank.cs.toArray (At.new _ _ _) (by kernel_rfl) rfl hone ?_
             first | change wpList _ _ _ _ _ (boxW wr p) | change Exit.then _ _ _ _ (boxW wr p))
          | (with_reducible show wpList _ _ _ ({ dst := _, op := .load 27 _, type := _, pos := _, after := _, guard := _ } :: _) _ _
             first
             | refine wpList_load_mid rfl 27 _ rfl g (off + j * 9) rfl p.cs _ HRg.out Tryd.underlying27 rfl (by rw [Tr.cs_length]; kernel_rfl) ?_
             | refine wpList_load_row rfl 27 _ rfl wr.heap.size rfl 27 p.cs.toArray (0, 0) _ HBox.out Tryd.underlying27 rfl (by kernel_rfl) ?_)
          | fail)
        refine (pWithin b k hgb HI.out ⟨#[40]⟩ p _ _ HPt3.out HX3.out (by
          have h1 := HLe.out.2.1
          have h2 := HLe.out.2.2
          obtain rfl : j = 0 := by omega
          rw [rowOf_one hlt, HPj.out, brkT_size] at h2
          rw [size_app]
          show x.size + 0 + 1 + (textS k p).size + (4010 + 20 * k) ≤ _
          omega)).mono ?_
        rintro e w5 ⟨rfl, h5, hk5⟩
        have HX5 : Hid (Bd w5 b (x ++ rowOf sep k t.parts (j + 1))) := Lib.hid (by rw [← HRow.out]; exact h5)
        have HK5 := Lib.hid (HK3.out.trans hk5)
        clear h5 hk5
        go_wp2_with fail
        exact ⟨⟨j + 1, by omega, by go_num, HX5, HK5⟩, by simp [intOf]; omega⟩
    · obtain rfl : j = t.parts.length := by omega
      have hX := HX.out
      unfold rowOf at hX
      rw [List.take_length] at hX
      have HX2 := Lib.hid hX
      clear hX
      go_wp2_with fail
      go_end0
      exact ⟨rfl, HX2.out, HK.out⟩

end Go.Proofs.YtibmcdgnponpmaaDoor
