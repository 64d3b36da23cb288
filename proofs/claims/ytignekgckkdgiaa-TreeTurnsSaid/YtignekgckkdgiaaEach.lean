/- tree.each: a new list of what a function makes of each pattern of a list. -/
import Derived.Test.YtignekgckkdgiaaProg
import Derived.Test.YtignekgckkdgiaaRowTr
import Derived.Test.YtignekgckkdgiaaBoxTr
import Derived.Test.YtignekgckkdgiaaFormed
import Derived.Test.YtignekgckkdgiaaSpansAt
import Derived.Test.YtignekgckkdgiaaOpenTr
import Derived.Laws.MakeOwn
namespace Go.Proofs.Ytignekgckkdgiaa
open Go.RowKit
set_option linter.unusedSimpArgs false
set_option linter.unusedVariables false

theorem info_re : (Try.prog.info? 27).map (fun i => (i.zero, i.size, i.bytes)) = some (some (.agg Tr.blank.cs.toArray), 9, 88) := by kernel_rfl
theorem make_re (n : Nat) (hn : n ≤ 1000000) (w : World) : (Instr.makeSlice 25 (.int .i64 (n : Int)) (.int .i64 (n : Int))).run Try.prog w = .ok (.slice (some ⟨w.heap.size, 0, none⟩) n n) (w.alloc (.cells (madeCells Tr.blank.cs.toArray (n * 9)) 27)) := by
  obtain ⟨i, hi, h0, h1, h2⟩ := info_parts info_re
  have h := run_make (P := Try.prog) w 25 27 i _ Try.underlying25 hi h0 .i64 .i64 (n : Int) (n : Int) (by omega) (Int.le_refl _) (by rw [h2]; omega) (by omega)
  rw [h1] at h
  simpa [Value.cells] using h
theorem made_row (w : World) (n : Nat) : RowTr (w.alloc (.cells (madeCells Tr.blank.cs.toArray (n * 9)) 27)) w.heap.size n (fun _ => Tr.blank) := by
  have hA := At.new w 27 (madeCells Tr.blank.cs.toArray (n * 9))
  have hget : ∀ j i, j < n → i < 9 → (madeCells Tr.blank.cs.toArray (n * 9))[j * 9 + i]? = Tr.blank.cs[i]? := by
    intro j i hj hi
    unfold madeCells
    rw [Array.getElem?_map, Array.getElem?_range, if_pos (by omega)]
    have h9 : Tr.blank.cs.toArray.size = 9 := rfl
    rw [Option.map_some, h9, show (j * 9 + i) % 9 = i by omega, List.getElem?_eq_getElem (by rw [Tr.cs_length]; exact hi)]
    congr 1
    rw [getElem!_pos Tr.blank.cs.toArray i (by rw [h9]; exact hi)]
    simp
  refine ⟨fun j hj i v hv => ?_, fun j hj i hi => ⟨?_, hA.free _⟩⟩
  · have hi : i < 9 := by have := (List.getElem?_eq_some_iff.1 hv).1; rwa [Tr.cs_length] at this
    rw [hA.cell, hget j i hj hi]; exact hv
  · rw [hA.cell, hget j i hj hi, List.getElem?_eq_getElem (by rw [Tr.cs_length]; exact hi)]; rfl

/-- What such a function answers: a pattern of its own, that is S of what it got. -/
def Made (S : Nat → Tr → Tr) (k : Nat) (t : Tr) (w : World) (e : Ending) (w' : World) : Prop := ∃ t2 : Tr, e = .returned (.agg t2.cs.toArray) ∧ Tr.In w' k t2 ∧ Tr.From w.heap.size k t2 ∧ t2.strip k = S k t ∧ Below w.heap.size w w'
def Makes (F : Nat) (S : Nat → Tr → Tr) (k : Nat) : Prop := ∀ (t : Tr) (w : World), Tr.In w k t → slimS k t → Calls Try.prog F #[.agg t.cs.toArray] w (Made S k t w)
/-- The new list. -/
def RowOf (S : Nat → Tr → Tr) (w' : World) (B k n : Nat) (A : Option Addr) (parts : List Tr) (ps : Nat → Tr) : Prop :=
  0 < n → ∃ g, A = some ⟨g, 0, none⟩ ∧ B ≤ g ∧ g < w'.heap.size ∧ RowTr w' g n ps ∧ ∀ (p : Nat) (h : p < parts.length), Tr.In w' k (ps p) ∧ Tr.From (g + 1) k (ps p) ∧ (ps p).strip k = S k parts[p]
def EachPost (S : Nat → Tr → Tr) (k n : Nat) (parts : List Tr) (w : World) (e : Ending) (w' : World) : Prop :=
  ∃ (A : Option Addr) (c : Nat) (ps : Nat → Tr), e = .returned (.slice A n c) ∧ (n = 0 → A = none ∧ c = 0) ∧ RowOf S w' w.heap.size k n A parts ps ∧ Below w.heap.size w w'
def putW (w : World) (g j : Nat) (t : Tr) : World := w.setCells g (j * 9) t.cs.toArray.toList
theorem putW_row {w : World} {g n j : Nat} {f : Nat → Tr} (h : RowTr w g n f) (hj : j < n) (t : Tr) : RowTr (putW w g j t) g n (fun p => if p = j then t else f p) := h.put hj t
theorem putW_only (w : World) (g j : Nat) (t : Tr) : Only g w (putW w g j t) := (Only.refl g w).cells _ _

set_option maxRecDepth 100000 in
set_option maxHeartbeats 2000000 in
theorem eachNil (S : Nat → Tr → Tr) (k c : Nat) (A : Option Addr) (w : World) :
    Calls Try.prog 42 #[.slice A 0 c, .func (.func 30) #[] #[]] w fun e w' => e = .returned (.slice none 0 0) ∧ Below w.heap.size w w' := by
  go_enter Try.func42, Try.ntmps42
  go_wp2_with fail
  go_ret
  exact ⟨rfl, Below.refl _ _⟩

set_option maxRecDepth 100000 in
set_option maxHeartbeats 4000000 in
theorem eachSome (S : Nat → Tr → Tr) (k c n b off : Nat) (parts : List Tr) (hF : Makes 30 S k) (w : World) (hn : n = parts.length) (h0 : 0 < n) (hn2 : n ≤ 2000) (hbw : b < w.heap.size)
    (hr : ∀ (j : Nat) (h : j < parts.length), w.rangeAt b (off + j * 9) parts[j].cs) (hin : ∀ (j : Nat) (h : j < parts.length), Tr.In w k parts[j]) (hsl : ∀ (j : Nat) (h : j < parts.length), slimS k parts[j]) :
    Calls Try.prog 42 #[.slice (some ⟨b, off, none⟩) n c, .func (.func 30) #[] #[]] w (EachPost S k n parts w) := by
  have HF := Lib.hid hF
  have HN := Lib.hid hn
  have HR := Lib.hid hr
  have HI := Lib.hid hin
  have HSl := Lib.hid hsl
  have hm := make_re n (by omega)
  have hne1 : ¬ (n : Int) = 0 := by omega
  have hne := (int_ne hne1).1
  have H0 : Hid (RowTr (w.alloc (.cells (madeCells Tr.blank.cs.toArray (n * 9)) 27)) w.heap.size n (fun _ => Tr.blank)) := Lib.hid (made_row w n)
  have HB0 : Hid (Below w.heap.size w (w.alloc (.cells (madeCells Tr.blank.cs.toArray (n * 9)) 27))) := Lib.hid ((Below.refl _ _).alloc (Nat.le_refl _) _)
  clear hF hn hr hin hsl
  go_enter Try.func42, Try.ntmps42
  go_wp2_with fail
  clear hm
  generalize hw1 : w.alloc (.cells (madeCells Tr.blank.cs.toArray (n * 9)) 27) = w1 at H0 HB0 ⊢
  clear hw1
  go_loopw [16] (fun i wr => ∃ (j : Nat) (ps : Nat → Tr), j ≤ n ∧ i = .int .i64 j ∧ Hid (RowTr wr w.heap.size n ps) ∧ Hid (∀ (p : Nat) (h : p < parts.length), p < j → Tr.In wr k (ps p) ∧ Tr.From (w.heap.size + 1) k (ps p) ∧ (ps p).strip k = S k parts[p]) ∧ Hid (Below w.heap.size w wr)) (fun i _ => n - (intOf i).toNat)
  case atStart => exact ⟨0, fun _ => Tr.blank, Nat.zero_le _, rfl, H0, Lib.hid (fun p _ hp => absurd hp (Nat.not_lt_zero _)), HB0⟩
  case round =>
    clear H0 HB0
    obtain ⟨j, ps, hj, rfl, HP, HD, HB⟩ := hrel
    have hgl := HP.out.lt h0
    by_cases hlt : j < n
    · have hlt' : j < parts.length := by rw [← HN.out]; exact hlt
      have HRj := Lib.hid (range_below (HR.out j hlt') hbw (Nat.le_refl _) HB.out)
      have HIj := Lib.hid (((HI.out j hlt').next HB.out).next (boxW_next wr parts[j]))
      have HSj := Lib.hid (HSl.out j hlt')
      have hA2 := boxW_at wr parts[j]
      obtain ⟨t, ht⟩ : ∃ t, parts[j] = t := ⟨_, rfl⟩
      have HT := Lib.hid ht
      rw [ht] at HRj HIj HSj hA2
      clear ht
      have HBx := Lib.hid (boxW_below HB.out t)
      have hjz : (0 : Int) ≤ (j : Int) := by omega
      have hjn : (j : Int) < (n : Int) := by omega
      go_wp2_with (first
        | (refine wpList_load_mid rfl 27 _ rfl b (off + j * 9) rfl t.cs _ HRj.out Try.underlying27 rfl (by rw [Tr.cs_length]; kernel_rfl) ?_)
        | (refine wpList_store_row rfl 27 _ _ rfl wr.heap.size t.cs.toArray rfl rfl 27 Tr.blank.cs.toArray (At.new _ _ _) (by kernel_rfl) rfl (Tr.one _) ?_; change Exit.then _ _ _ _ (boxW wr t))
        | (refine wpList_load_row rfl 27 _ rfl wr.heap.size rfl 27 t.cs.toArray (0, 0) _ hA2 Try.underlying27 rfl (by kernel_rfl) ?_) | fail)
      refine (HF.out t _ HIj.out HSj.out).mono ?_
      rintro e w3 ⟨t2, rfl, hin2, hfr2, hst2, hb3⟩
      have hsz := boxW_size wr t
      have HP3 := Lib.hid ((HP.out.below (boxW_next wr t) hgl).below hb3 (by rw [hsz]; omega))
      have HB3 := Lib.hid (HBx.out.trans (hb3.mono HBx.out.size))
      have HD3 : Hid (∀ (p : Nat) (h : p < parts.length), p < j → Tr.In w3 k (ps p) ∧ Tr.From (w.heap.size + 1) k (ps p) ∧ (ps p).strip k = S k parts[p]) := fun p hp hpj =>
        ⟨((HD.out p hp hpj).1.next (boxW_next wr t)).next hb3, (HD.out p hp hpj).2⟩
      have HI2 := Lib.hid hin2
      have HF2 := Lib.hid (Tr.From.lower (show w.heap.size + 1 ≤ (boxW wr t).heap.size by rw [hsz]; omega) k t2 hfr2)
      have HS2 : Hid (t2.strip k = S k parts[j]) := by rw [HT.out]; exact hst2
      clear hin2 hfr2 hst2 hb3 hsz hA2
      have hone := Tr.one t2
      have hth : w3.there w.heap.size (j * 9) t2.cs.toArray.size := HP3.out.there j hlt
      go_wp2_with (first
        | (with_reducible show wpList _ _ _ ({ dst := none, op := .store _ _ _, type := _, pos := _, after := _, guard := _ } :: _) _ _
           refine wpList_store_mid rfl 27 _ _ rfl w.heap.size (j * 9) t2.cs.toArray rfl rfl hth (by kernel_rfl) hone ?_
           change wpList _ _ _ _ _ (putW w3 w.heap.size j t2)) | fail)
      have hO := putW_only w3 w.heap.size j t2
      refine ⟨⟨j + 1, fun p => if p = j then t2 else ps p, by omega, by go_num, Lib.hid (putW_row HP3.out hlt t2), Lib.hid (fun p hp hpj => ?_), Lib.hid (HB3.out.trans (hO.below (Nat.le_refl _)))⟩, by simp [intOf]; omega⟩
      by_cases e : p = j
      · subst e
        simp only [if_true]
        exact ⟨HI2.out.only HF2.out hO (by omega), HF2.out, HS2.out⟩
      · simp only [if_neg e]
        have hq := HD3.out p hp (by omega)
        exact ⟨hq.1.only hq.2.1 hO (by omega), hq.2.1, hq.2.2⟩
    · obtain rfl : j = n := by omega
      go_wp2_with fail
      go_ret
      exact ⟨_, _, ps, rfl, fun e => absurd e (by omega), fun _ => ⟨w.heap.size, rfl, Nat.le_refl _, hgl, HP.out, fun p hp => HD.out p hp (by rw [HN.out]; exact hp)⟩, HB.out⟩

theorem eachAny (S : Nat → Tr → Tr) (k : Nat) (hF : Makes 30 S k) (t : Tr) (w : World) (h : Tr.In w (k + 1) t) (hs : slimS (k + 1) t) :
    Calls Try.prog 42 #[.slice t.addr t.parts.length t.cap, .func (.func 30) #[] #[]] w (EachPost S k t.parts.length t.parts w) := by
  by_cases h0 : t.parts.length = 0
  · rw [h0]
    refine (eachNil S k t.cap t.addr w).mono ?_
    rintro e w' ⟨rfl, hb⟩
    exact ⟨none, 0, fun _ => Tr.blank, rfl, fun _ => ⟨rfl, rfl⟩, fun q => absurd q (Nat.lt_irrefl _), hb⟩
  · obtain ⟨b, off, ha, hb, hr⟩ := h.2.2.1 (by rw [h.2.1.1]; omega)
    rw [ha]
    exact eachSome S k t.cap t.parts.length b off t.parts hF w rfl (by omega) hs.1 hb hr h.2.2.2 (fun j hj => hs.2 _ (List.getElem_mem hj))

theorem RowOf.only {S : Nat → Tr → Tr} {w w' : World} {B k n g0 : Nat} {A : Option Addr} {parts : List Tr} {ps : Nat → Tr} (h : RowOf S w B k n A parts ps) (ho : Only g0 w w') (hg : g0 < B) : RowOf S w' B k n A parts ps := fun h0 => by
  obtain ⟨g, e, hb, hlt, hr, hp⟩ := h h0
  have hne : g ≠ g0 := by omega
  refine ⟨g, e, hb, by rw [ho.2.2.2.1]; exact hlt, ⟨fun j hj i v hv => ?_, fun j hj i hi => ?_⟩, fun p hpp => ⟨(hp p hpp).1.only (hp p hpp).2.1 ho (by omega), (hp p hpp).2⟩⟩
  · have := hr.at_ j hj i v hv
    unfold World.cell? at this ⊢
    rw [ho.2.2.2.2 g hne]; exact this
  · have := hr.there j hj i hi
    unfold World.cell? World.frozen? at this ⊢
    rw [ho.2.2.2.2 g hne]; exact this
theorem Only.cell {g : Nat} {w w' : World} (h : Only g w w') (o : Nat) (v : Value) : Only g w (w'.setCell ⟨g, o, none⟩ v) := h.cells o [v]
theorem RowOf.low {S : Nat → Tr → Tr} {w : World} {B B' k n : Nat} {A : Option Addr} {parts : List Tr} {ps : Nat → Tr} (h : RowOf S w B k n A parts ps) (hb : B' ≤ B) : RowOf S w B' k n A parts ps := fun h0 => by
  obtain ⟨g, e, hb', r⟩ := h h0
  exact ⟨g, e, Nat.le_trans hb hb', r⟩
/-- The new node over a new list. -/
theorem made_in {S : Nat → Tr → Tr} {w' : World} {B k n c : Nat} {A : Option Addr} {parts : List Tr} {ps : Nat → Tr} {kd lo hi : Int} {set : St} {neg : Bool} (hset : set.Ok) (hkd : I64 kd) (hlo : I64 lo) (hhi : I64 hi)
    (hn : n = parts.length) (hn2 : n ≤ 2000) (h : RowOf S w' B k n A parts ps) :
    Tr.In w' (k + 1) (.node kd set A n c ((List.range n).map ps) lo hi neg) ∧ Tr.From B (k + 1) (.node kd set A n c ((List.range n).map ps) lo hi neg) ∧
      (Tr.node kd set A n c ((List.range n).map ps) lo hi neg).strip (k + 1) = .node kd set none n 0 (parts.map (S k)) lo hi neg := by
  refine ⟨⟨⟨hset, hkd, hlo, hhi⟩, ⟨by show n = ((List.range n).map ps).length; simp, by show n ≤ _; omega⟩, fun h0 => ?_, fun j hj => ?_⟩, ⟨fun h0 b off e => ?_, fun p hp => ?_⟩, ?_⟩
  · obtain ⟨g, e, hb, hlt, hr, hp⟩ := h h0
    refine ⟨g, 0, e, hlt, fun j hj => ?_⟩
    have hj' : j < n := by have : j < ((List.range n).map ps).length := hj; simpa using this
    have e1 := map_range_at ps n j hj
    show w'.rangeAt g (0 + j * 9) (((List.range n).map ps)[j]'hj).cs
    rw [e1, Nat.zero_add]
    exact hr.at_ j hj'
  · have hj' : j < n := by have : j < ((List.range n).map ps).length := hj; simpa using this
    obtain ⟨g, e, hb, hlt, hr, hp⟩ := h (by omega)
    have e1 := map_range_at ps n j hj
    show Tr.In w' k (((List.range n).map ps)[j]'hj)
    rw [e1]
    exact (hp j (by omega)).1
  · obtain ⟨g, e', hb, _⟩ := h h0
    have e2 : A = some ⟨b, off, none⟩ := e
    rw [e2] at e'
    injection e' with e'
    injection e' with e1
    omega
  · have hp' : p ∈ (List.range n).map ps := hp
    rw [List.mem_map] at hp'
    obtain ⟨j, hj, rfl⟩ := hp'
    have hj' := List.mem_range.1 hj
    obtain ⟨g, e, hb, hlt, hr, hq⟩ := h (by omega)
    exact (hq j (by omega)).2.1.lower (by omega)
  · show Tr.node kd set none ((List.range n).map ps).length 0 (((List.range n).map ps).map (Tr.strip k)) lo hi neg = _
    rw [List.length_map, List.length_range]
    congr 1
    apply List.ext_getElem
    · simp; omega
    · intro j h1 h2
      have hj : j < n := by simpa using h1
      obtain ⟨g, e, hb, hlt, hr, hq⟩ := h (by omega)
      simp only [List.getElem_map, List.getElem_range]
      exact (hq j (by omega)).2.2

end Go.Proofs.Ytignekgckkdgiaa
