/- Joined: Lv, Copied, Judge, FormMass. -/
import Derived.Test.YtcghclikkeajfaaGreatMp
import Derived.Test.YtcghclikkeajfaaGreatMs
import Derived.Test.YtcghclikkeajfaaGreatRefFormed
import Derived.Test.YtcghclikkeajfaaGreatProg
import Derived.Test.YtcghclikkeajfaaGreatMq
/- Levels; what a formed pattern is, however deep it is looked at. No program is walked here. -/
namespace Go.Proofs.YtcghclikkeajfaaGreat
open Go.RowKit
set_option linter.unusedSimpArgs false
set_option linter.unusedVariables false

/-- At most k levels. -/
def Tr.Lv : Nat → Tr → Prop
  | 0, _ => False
  | k + 1, t => ∀ p ∈ t.parts, Tr.Lv k p
theorem Tr.In.lv {w : World} : ∀ (k : Nat) (t : Tr), Tr.In w k t → Tr.Lv k t
  | 0, _, h => h.elim
  | k + 1, t, h => fun p hp => by
    obtain ⟨j, hj, rfl⟩ := List.getElem_of_mem hp
    exact Tr.In.lv k _ (h.2.2.2 j hj)
theorem Tr.Lv.up : ∀ (k : Nat) (t : Tr), Tr.Lv k t → Tr.Lv (k + 1) t
  | 0, _, h => h.elim
  | k + 1, t, h => fun p hp => Tr.Lv.up k p (h p hp)
theorem Tr.Lv.strip : ∀ (k : Nat) (t : Tr), Tr.Lv k t → Tr.Lv k (t.strip k)
  | 0, _, h => h.elim
  | k + 1, t, h => fun p hp => by
    have hp' : p ∈ t.parts.map (Tr.strip k) := hp
    rw [List.mem_map] at hp'
    obtain ⟨q, hq, rfl⟩ := hp'
    exact Tr.Lv.strip k q (h q hq)
theorem all_congr {α : Type} {f g : α → Bool} {l : List α} (h : ∀ p ∈ l, f p = g p) : l.all f = l.all g := by
  induction l with
  | nil => rfl
  | cons a r ih => rw [List.all_cons, List.all_cons, h a (by simp), ih (fun p hp => h p (List.mem_cons_of_mem _ hp))]
theorem formedS_lv : ∀ (k : Nat) (t : Tr), Tr.Lv k t → formedS (k + 1) t = formedS k t
  | 0, _, h => h.elim
  | k + 1, t, h => by
    show (ownF t && t.parts.all (formedS (k + 1))) = (ownF t && t.parts.all (formedS k))
    rw [all_congr (fun p hp => formedS_lv k p (h p hp))]
theorem map_congr' {α β : Type} {f g : α → β} {l : List α} (h : ∀ p ∈ l, f p = g p) : l.map f = l.map g := List.map_congr_left h
theorem deepS_lv : ∀ (k : Nat) (m : Int) (t : Tr), Tr.Lv k t → deepS (k + 1) m t = deepS k m t
  | 0, _, _, h => h.elim
  | k + 1, m, t, h => by
    show (if m < 1 then 1 else 1 + maxl (t.parts.map (deepS (k + 1) (m - 1)))) = (if m < 1 then 1 else 1 + maxl (t.parts.map (deepS k (m - 1))))
    rw [map_congr' (fun p hp => deepS_lv k (m - 1) p (h p hp))]
theorem sizeTo_lv (k : Nat) (t : Tr) (hh : ∀ p ∈ t.parts, sizeS (k + 1) p = sizeS k p) (j : Nat) : sizeTo (k + 1) t j = sizeTo k t j := by
  unfold sizeTo
  rw [map_congr' (fun p hp => hh p (List.mem_of_mem_take hp))]
theorem sizeS_lv : ∀ (k : Nat) (t : Tr), Tr.Lv k t → sizeS (k + 1) t = sizeS k t
  | 0, _, h => h.elim
  | k + 1, t, h => by
    have hh : ∀ p ∈ t.parts, sizeS (k + 1) p = sizeS k p := fun p hp => sizeS_lv k p (h p hp)
    by_cases h7 : t.kind = 7
    · rw [← sizeTo_times (k + 1) t h7, ← sizeTo_times k t h7, sizeTo_lv k t hh]
    · rw [← sizeTo_plain (k + 1) t h7, ← sizeTo_plain k t h7, sizeTo_lv k t hh]
theorem isFormed_lv {k : Nat} {t : Tr} (h : Tr.Lv k t) : isFormed (k + 1) t = isFormed k t := by
  unfold isFormed
  rw [deepS_lv k 40 t h, formedS_lv k t h, sizeS_lv k t h]
theorem isFormed_more {k : Nat} {t : Tr} (h : Tr.Lv k t) : ∀ d, isFormed (k + d) t = isFormed k t ∧ Tr.Lv (k + d) t
  | 0 => ⟨rfl, h⟩
  | d + 1 => by
    have ih := isFormed_more h d
    exact ⟨(isFormed_lv ih.2).trans ih.1, Tr.Lv.up _ _ ih.2⟩
/-- Formed, whatever the levels it is looked at. -/
def FormedT (t : Tr) : Prop := ∃ k, Tr.Lv k t ∧ isFormed k t = true
theorem FormedT.at {t : Tr} (h : FormedT t) {k : Nat} (hk : Tr.Lv k t) : isFormed k t = true := by
  obtain ⟨m, h1, h2⟩ := h
  rcases Nat.le_total k m with q | q
  · have := isFormed_more hk (m - k)
    rw [show k + (m - k) = m by omega] at this
    rw [← this.1]; exact h2
  · have := isFormed_more h1 (k - m)
    rw [show m + (k - m) = k by omega] at this
    rw [this.1]; exact h2
theorem isFormed_deep {k : Nat} {t : Tr} (h : isFormed k t = true) : deepS k 40 t ≤ 40 := by
  unfold isFormed at h
  rw [Bool.and_eq_true] at h
  have := of_decide_eq_true h.1
  omega
/-- A tree that isn't deep lies with few levels. -/
theorem deep_in {w : World} : ∀ (k m : Nat) (t : Tr), Tr.In w k t → deepS k m t ≤ m → Tr.In w m t
  | 0, _, _, h, _ => h.elim
  | k + 1, m, t, h, hd => by
    have h1 : 1 ≤ m := by
      have hd' : (if (m : Int) < 1 then (1 : Int) else 1 + maxl (t.parts.map (deepS k ((m : Int) - 1)))) ≤ m := hd
      split at hd'
      · omega
      · have := maxl_ge (t.parts.map (deepS k ((m : Int) - 1))); omega
    obtain ⟨m', rfl⟩ : ∃ m', m = m' + 1 := ⟨m - 1, by omega⟩
    refine ⟨h.1, h.2.1, h.2.2.1, fun j hj => deep_in k m' _ (h.2.2.2 j hj) ?_⟩
    have := (deep_part (k := k) (j := j) (m := ((m' + 1 : Nat) : Int)) (t := t) hd hj).2
    rw [show ((m' + 1 : Nat) : Int) - 1 = (m' : Int) by omega] at this
    exact this
theorem size_pos : ∀ (k : Nat) (t : Tr), Tr.Lv k t → 1 ≤ sizeS k t
  | 0, _, h => h.elim
  | k + 1, t, h => by
    have hx : 0 ≤ (if t.kind = 7 then sumS (t.parts.map (sizeS k)) * timesS t.lo t.hi else sumS (t.parts.map (sizeS k))) := by
      have h0 : 0 ≤ sumS (t.parts.map (sizeS k)) := by
        have := sizeTo_ge k t t.parts.length
        unfold sizeTo at this
        rwa [List.take_length] at this
      split
      · exact Int.mul_nonneg h0 (by unfold timesS timesLo cut2000; repeat' split <;> omega)
      · exact h0
    show 1 ≤ cut1001 (_ + 1)
    unfold cut1001
    split <;> omega
theorem times_pos (lo hi : Int) : 1 ≤ timesS lo hi := by unfold timesS timesLo cut2000; repeat' split <;> omega
theorem size_sum {k : Nat} {t : Tr} (h : sizeS (k + 1) t ≤ 1000) : sumS (t.parts.map (sizeS k)) ≤ 999 := by
  have h0 : 0 ≤ sumS (t.parts.map (sizeS k)) := by
    have := sizeTo_ge k t t.parts.length
    unfold sizeTo at this
    rwa [List.take_length] at this
  have h' : cut1001 ((if t.kind = 7 then sumS (t.parts.map (sizeS k)) * timesS t.lo t.hi else sumS (t.parts.map (sizeS k))) + 1) ≤ 1000 := h
  have hc : ∀ x : Int, cut1001 (x + 1) ≤ 1000 → x ≤ 999 := fun x hx => by unfold cut1001 at hx; split at hx <;> omega
  have h2 := hc _ h'
  split at h2
  · have hm : sumS (t.parts.map (sizeS k)) * 1 ≤ sumS (t.parts.map (sizeS k)) * timesS t.lo t.hi := Int.mul_le_mul_of_nonneg_left (times_pos _ _) h0
    rw [Int.mul_one] at hm
    omega
  · omega
end Go.Proofs.YtcghclikkeajfaaGreat

/- tree.copied: a pattern in memory of its own. -/
namespace Go.Proofs.YtcghclikkeajfaaGreat
open Go.RowKit
set_option linter.unusedSimpArgs false
set_option linter.unusedVariables false

/-- Sol stays where nothing but a block below has turned. -/
theorem Tr.Sol.only {g base : Nat} {w w' : World} (ho : Only g w w') (hg : g < base) : ∀ (k : Nat) (t : Tr), Tr.From base k t → Tr.Sol w k t → Tr.Sol w' k t
  | 0, _, _, _ => trivial
  | k + 1, t, hf, hs => ⟨fun h0 b off e => by
      have hb := hf.1 h0 b off e
      rw [World.frozen?_of_block (w := w) (ho.2.2.2.2 b (by omega))]
      exact hs.1 h0 b off e, fun p hp => Tr.Sol.only ho hg k p (hf.2 p hp) (hs.2 p hp)⟩
theorem Tr.Ins.only {g base k : Nat} {w w' : World} {t : Tr} (h : Tr.Ins w k t) (hf : Tr.From base k t) (ho : Only g w w') (hg : g < base) : Tr.Ins w' k t :=
  ⟨h.1.only hf ho hg, Tr.Sol.only ho hg k t hf h.2⟩
/-- What a function answers that makes a pattern of its own: as Made, and its lists may be held against each other. -/
def MadeI (S : Nat → Tr → Tr) (k : Nat) (t : Tr) (w : World) (e : Ending) (w' : World) : Prop := ∃ t2 : Tr, e = .returned (.agg t2.cs.toArray) ∧ Tr.Ins w' k t2 ∧ Tr.From w.heap.size k t2 ∧ t2.strip k = S k t ∧ Below w.heap.size w w'
def MakesI (F : Nat) (S : Nat → Tr → Tr) (k : Nat) : Prop := ∀ (t : Tr) (w : World), Tr.In w k t → slimS k t → Calls Tryz.prog F #[.agg t.cs.toArray] w (MadeI S k t w)
def RowOfI (S : Nat → Tr → Tr) (w' : World) (B k n : Nat) (A : Option Addr) (parts : List Tr) (ps : Nat → Tr) : Prop :=
  0 < n → ∃ g, A = some ⟨g, 0, none⟩ ∧ B ≤ g ∧ g < w'.heap.size ∧ RowTr w' g n ps ∧ ∀ (p : Nat) (h : p < parts.length), Tr.Ins w' k (ps p) ∧ Tr.From (g + 1) k (ps p) ∧ (ps p).strip k = S k parts[p]
theorem RowOfI.plain {S : Nat → Tr → Tr} {w : World} {B k n : Nat} {A : Option Addr} {parts : List Tr} {ps : Nat → Tr} (h : RowOfI S w B k n A parts ps) : RowOf S w B k n A parts ps := fun h0 => by
  obtain ⟨g, e, hb, hlt, hr, hp⟩ := h h0
  exact ⟨g, e, hb, hlt, hr, fun p hh => ⟨(hp p hh).1.1, (hp p hh).2⟩⟩
def EachPostI (S : Nat → Tr → Tr) (k n : Nat) (parts : List Tr) (w : World) (e : Ending) (w' : World) : Prop :=
  ∃ (A : Option Addr) (c : Nat) (ps : Nat → Tr), e = .returned (.slice A n c) ∧ (n = 0 → A = none ∧ c = 0) ∧ RowOfI S w' w.heap.size k n A parts ps ∧ Below w.heap.size w w'
theorem RowOfI.only {S : Nat → Tr → Tr} {w w' : World} {B k n g0 : Nat} {A : Option Addr} {parts : List Tr} {ps : Nat → Tr} (h : RowOfI S w B k n A parts ps) (ho : Only g0 w w') (hg : g0 < B) : RowOfI S w' B k n A parts ps := fun h0 => by
  obtain ⟨g, e, hb, hlt, hr, hp⟩ := h h0
  obtain ⟨g', e', hb', hlt', hr', hp'⟩ := h.plain.only ho hg h0
  have : g' = g := by rw [e] at e'; injection e' with e'; injection e' with e'; exact e'.symm
  subst this
  exact ⟨g', e, hb, hlt', hr', fun p hpp => ⟨(hp p hpp).1.only (hp p hpp).2.1 ho (by omega), (hp p hpp).2⟩⟩
theorem made_inI {S : Nat → Tr → Tr} {w' : World} {B k n c : Nat} {A : Option Addr} {parts : List Tr} {ps : Nat → Tr} {kd lo hi : Int} {set : St} {neg : Bool} (hset : set.Ok) (hkd : I64 kd) (hlo : I64 lo) (hhi : I64 hi)
    (hn : n = parts.length) (hn2 : n ≤ 2000) (h : RowOfI S w' B k n A parts ps) :
    Tr.Ins w' (k + 1) (.node kd set A n c ((List.range n).map ps) lo hi neg) ∧ Tr.From B (k + 1) (.node kd set A n c ((List.range n).map ps) lo hi neg) ∧
      (Tr.node kd set A n c ((List.range n).map ps) lo hi neg).strip (k + 1) = .node kd set none n 0 (parts.map (S k)) lo hi neg := by
  obtain ⟨h1, h2, h3⟩ := made_in (c := c) (kd := kd) (lo := lo) (hi := hi) (neg := neg) hset hkd hlo hhi hn hn2 h.plain
  refine ⟨⟨h1, fun h0 b off e => ?_, fun p hp => ?_⟩, h2, h3⟩
  · have h0' : 0 < n := h0
    obtain ⟨g, e', hb, hlt, hr, hp⟩ := h h0'
    have e2 : A = some ⟨b, off, none⟩ := e
    rw [e2] at e'
    injection e' with e'
    injection e' with e1 e3
    subst e1; subst e3
    have := (hr.there 0 h0' 0 (by omega)).2
    simpa using this
  · have hp' : p ∈ (List.range n).map ps := hp
    rw [List.mem_map] at hp'
    obtain ⟨j, hj, rfl⟩ := hp'
    have hj' := List.mem_range.1 hj
    obtain ⟨g, e, hb, hlt, hr, hq⟩ := h (by omega)
    exact (hq j (by omega)).1.2

set_option maxRecDepth 100000 in
set_option maxHeartbeats 2000000 in
theorem eachNil (S : Nat → Tr → Tr) (k c : Nat) (A : Option Addr) (w : World) :
    Calls Tryz.prog 71 #[.slice A 0 c, .func (.func 52) #[] #[]] w fun e w' => e = .returned (.slice none 0 0) ∧ Below w.heap.size w w' := by
  go_enter Tryz.func71, Tryz.ntmps71
  go_wp2_with fail
  go_ret
  exact ⟨rfl, Below.refl _ _⟩

set_option maxRecDepth 100000 in
set_option maxHeartbeats 4000000 in
theorem eachSome (S : Nat → Tr → Tr) (k c n b off : Nat) (parts : List Tr) (hF : MakesI 52 S k) (w : World) (hn : n = parts.length) (h0 : 0 < n) (hn2 : n ≤ 2000) (hbw : b < w.heap.size)
    (hr : ∀ (j : Nat) (h : j < parts.length), w.rangeAt b (off + j * 9) parts[j].cs) (hin : ∀ (j : Nat) (h : j < parts.length), Tr.In w k parts[j]) (hsl : ∀ (j : Nat) (h : j < parts.length), slimS k parts[j]) :
    Calls Tryz.prog 71 #[.slice (some ⟨b, off, none⟩) n c, .func (.func 52) #[] #[]] w (EachPostI S k n parts w) := by
  have HF := Lib.hid hF
  have HN := Lib.hid hn
  have HR := Lib.hid hr
  have HI := Lib.hid hin
  have HSl := Lib.hid hsl
  have hm := make_re n (by omega)
  have hne1 : ¬ (n : Int) = 0 := by omega
  have hne := (int_ne hne1).1
  have H0 : Hid (RowTr (w.alloc (.cells (madeCells Tr.blank.cs.toArray (n * 9)) 27)) w.heap.size n (fun _ => Tr.blank)) := Lib.hid (made_row w n)
  have HB0 : Hid (Below w.heap.size w (w.alloc (.cells (madeCells Tr.blank.cs.toArray (n * 9)) 27))) := Lib.hid ((Below.refl _ _).alloc (Nat.le_refl _) _)
  clear hF hn hr hin hsl
  go_enter Tryz.func71, Tryz.ntmps71
  go_wp2_with fail
  clear hm
  generalize hw1 : w.alloc (.cells (madeCells Tr.blank.cs.toArray (n * 9)) 27) = w1 at H0 HB0 ⊢
  clear hw1
  go_loopw [16] (fun i wr => ∃ (j : Nat) (ps : Nat → Tr), j ≤ n ∧ i = .int .i64 j ∧ Hid (RowTr wr w.heap.size n ps) ∧ Hid (∀ (p : Nat) (h : p < parts.length), p < j → Tr.Ins wr k (ps p) ∧ Tr.From (w.heap.size + 1) k (ps p) ∧ (ps p).strip k = S k parts[p]) ∧ Hid (Below w.heap.size w wr)) (fun i _ => n - (intOf i).toNat)
  case atStart => exact ⟨0, fun _ => Tr.blank, Nat.zero_le _, rfl, H0, Lib.hid (fun p _ hp => absurd hp (Nat.not_lt_zero _)), HB0⟩
  case round =>
    clear H0 HB0
    obtain ⟨j, ps, hj, rfl, HP, HD, HB⟩ := hrel
    have hgl := HP.out.lt h0
    by_cases hlt : j < n
    · have hlt' : j < parts.length := by rw [← HN.out]; exact hlt
      have HRj := Lib.hid (range_below (HR.out j hlt') hbw (Nat.le_refl _) HB.out)
      have HIj := Lib.hid (((HI.out j hlt').next HB.out).next (boxW_next wr parts[j]))
      have HSj := Lib.hid (HSl.out j hlt')
      have hA2 := boxW_at wr parts[j]
      obtain ⟨t, ht⟩ : ∃ t, parts[j] = t := ⟨_, rfl⟩
      have HT := Lib.hid ht
      rw [ht] at HRj HIj HSj hA2
      clear ht
      have HBx := Lib.hid (boxW_below HB.out t)
      have hjz : (0 : Int) ≤ (j : Int) := by omega
      have hjn : (j : Int) < (n : Int) := by omega
      go_wp2_with (first
        | (refine wpList_load_mid rfl 27 _ rfl b (off + j * 9) rfl t.cs _ HRj.out Tryz.underlying27 rfl (by rw [Tr.cs_length]; kernel_rfl) ?_)
        | (refine wpList_store_row rfl 27 _ _ rfl wr.heap.size t.cs.toArray rfl rfl 27 Tr.blank.cs.toArray (At.new _ _ _) (by kernel_rfl) rfl (Tr.one _) ?_; change Exit.then _ _ _ _ (boxW wr t))
        | (refine wpList_load_row rfl 27 _ rfl wr.heap.size rfl 27 t.cs.toArray (0, 0) _ hA2 Tryz.underlying27 rfl (by kernel_rfl) ?_) | fail)
      refine (HF.out t _ HIj.out HSj.out).mono ?_
      rintro e w3 ⟨t2, rfl, hin2, hfr2, hst2, hb3⟩
      have hsz := boxW_size wr t
      have HP3 := Lib.hid ((HP.out.below (boxW_next wr t) hgl).below hb3 (by rw [hsz]; omega))
      have HB3 := Lib.hid (HBx.out.trans (hb3.mono HBx.out.size))
      have HD3 : Hid (∀ (p : Nat) (h : p < parts.length), p < j → Tr.Ins w3 k (ps p) ∧ Tr.From (w.heap.size + 1) k (ps p) ∧ (ps p).strip k = S k parts[p]) := fun p hp hpj =>
        ⟨((HD.out p hp hpj).1.next (boxW_next wr t)).next hb3, (HD.out p hp hpj).2⟩
      have HI2 := Lib.hid hin2
      have HF2 := Lib.hid (Tr.From.lower (show w.heap.size + 1 ≤ (boxW wr t).heap.size by rw [hsz]; omega) k t2 hfr2)
      have HS2 : Hid (t2.strip k = S k parts[j]) := by rw [HT.out]; exact hst2
      clear hin2 hfr2 hst2 hb3 hsz hA2
      have hone := Tr.one t2
      have hth : w3.there w.heap.size (j * 9) t2.cs.toArray.size := HP3.out.there j hlt
      go_wp2_with (first
        | (with_reducible show wpList _ _ _ ({ dst := none, op := .store _ _ _, type := _, pos := _, after := _, guard := _ } :: _) _ _
           refine wpList_store_mid rfl 27 _ _ rfl w.heap.size (j * 9) t2.cs.toArray rfl rfl hth (by kernel_rfl) hone ?_
           change wpList _ _ _ _ _ (putW w3 w.heap.size j t2)) | fail)
      have hO := putW_only w3 w.heap.size j t2
      refine ⟨⟨j + 1, fun p => if p = j then t2 else ps p, by omega, by go_num, Lib.hid (putW_row HP3.out hlt t2), Lib.hid (fun p hp hpj => ?_), Lib.hid (HB3.out.trans (hO.below (Nat.le_refl _)))⟩, by simp [intOf]; omega⟩
      by_cases e : p = j
      · subst e
        simp only [if_true]
        exact ⟨HI2.out.only HF2.out hO (by omega), HF2.out, HS2.out⟩
      · simp only [if_neg e]
        have hq := HD3.out p hp (by omega)
        exact ⟨hq.1.only hq.2.1 hO (by omega), hq.2.1, hq.2.2⟩
    · obtain rfl : j = n := by omega
      go_wp2_with fail
      go_ret
      exact ⟨_, _, ps, rfl, fun e => absurd e (by omega), fun _ => ⟨w.heap.size, rfl, Nat.le_refl _, hgl, HP.out, fun p hp => HD.out p hp (by rw [HN.out]; exact hp)⟩, HB.out⟩

theorem eachAny (S : Nat → Tr → Tr) (k : Nat) (hF : MakesI 52 S k) (t : Tr) (w : World) (h : Tr.In w (k + 1) t) (hs : slimS (k + 1) t) :
    Calls Tryz.prog 71 #[.slice t.addr t.parts.length t.cap, .func (.func 52) #[] #[]] w (EachPostI S k t.parts.length t.parts w) := by
  by_cases h0 : t.parts.length = 0
  · rw [h0]
    refine (eachNil S k t.cap t.addr w).mono ?_
    rintro e w' ⟨rfl, hb⟩
    exact ⟨none, 0, fun _ => Tr.blank, rfl, fun _ => ⟨rfl, rfl⟩, fun q => absurd q (Nat.lt_irrefl _), hb⟩
  · obtain ⟨b, off, ha, hb, hr⟩ := h.2.2.1 (by rw [h.2.1.1]; omega)
    rw [ha]
    exact eachSome S k t.cap t.parts.length b off t.parts hF w rfl (by omega) hs.1 hb hr h.2.2.2 (fun j hj => hs.2 _ (List.getElem_mem hj))

set_option maxRecDepth 100000 in
set_option maxHeartbeats 4000000 in
theorem copied_step (k : Nat) (ih : MakesI 52 (fun k t => Tr.strip k t) k) (t : Tr) (w : World) (h : Tr.In w (k + 1) t) (hs : slimS (k + 1) t) :
    Calls Tryz.prog 52 #[.agg t.cs.toArray] w (MadeI (fun k t => Tr.strip k t) (k + 1) t w) := by
  have hn := h.2.1.1
  have HN := Lib.hid hn
  have HI := Lib.hid h
  have HIH := Lib.hid ih
  have HSl := Lib.hid hs
  obtain ⟨w2, hw2⟩ : ∃ w2, w2 = (w.alloc (.cells t.cs.toArray 27)).alloc (.cells #[.int .i64 0, .int .u64 0, .int .u64 0, .int .u64 0, .int .u64 0, .slice none 0 0, .int .i64 0, .int .i64 0, .bool false] 27) := ⟨_, rfl⟩
  have HA0 : Hid (At w2 w.heap.size 27 t.cs.toArray) := Lib.hid (by rw [hw2]; exact (At.new _ _ _).alloc _)
  have HZ0 : Hid (At w2 (w.heap.size + 1) 27 Tr.blank.cs.toArray) := Lib.hid (by rw [hw2]; exact at_new' (w.alloc (.cells t.cs.toArray 27)) (w.heap.size + 1) 27 (cs := Tr.blank.cs.toArray) (by simp))
  have HB0 : Hid (Below w.heap.size w w2) := Lib.hid (by rw [hw2]; exact below_two _ _)
  have HW2 := Lib.hid hw2
  have hsz2 : w2.heap.size = w.heap.size + 2 := by rw [hw2]; simp
  have HSz := Lib.hid hsz2
  obtain ⟨c0, c5, c6, c7, c8⟩ := At.tr_cell HA0.out
  rw [hw2] at c5
  rw [hn] at c5
  clear h hs ih hn hw2 hsz2 c0 c6 c7 c8
  go_enter Tryz.func52, Tryz.ntmps52
  go_wp2_with fail
  rw [← HW2.out]
  refine (eachAny (fun k t => Tr.strip k t) k HIH.out t _ (HI.out.next HB0.out) HSl.out).mono ?_
  rintro e w3 ⟨A, c2, ps, rfl, hA0, hrow, hb3⟩
  have HA3 := Lib.hid (HA0.out.below hb3 HA0.out.lt)
  have HZ3 := Lib.hid (HZ0.out.below hb3 HZ0.out.lt)
  have HB3 := Lib.hid (HB0.out.trans (hb3.mono HB0.out.size))
  have HR3 : Hid (RowOfI (fun k t => Tr.strip k t) w3 (w.heap.size + 2) k t.parts.length A t.parts ps) := Lib.hid (by rw [← HSz.out]; exact hrow)
  have HN0 := Lib.hid hA0
  clear hb3 hrow hA0 c5
  have q5 := HA3.out.cell 5
  have f5 := HA3.out.free 5
  have c0 := HA3.out.cell 0
  have f0 := HA3.out.free 0
  have r0 : t.cs.toArray[0]? = some (.int .i64 t.kind) := rfl
  have r5 : t.cs.toArray[5]? = some (.slice t.addr t.n t.cap) := rfl
  rw [r5] at q5
  rw [r0] at c0
  clear r0 r5
  have hAu : At (w3.setCell ⟨w.heap.size, 5, none⟩ (.slice A t.parts.length c2)) w.heap.size 27 (Tr.node t.kind t.set A t.parts.length c2 ((List.range t.parts.length).map (ps)) t.lo t.hi t.neg).cs.toArray := HA3.out.set 5 _
  have hZu : At (w3.setCell ⟨w.heap.size, 5, none⟩ (.slice A t.parts.length c2)) (w.heap.size + 1) 27 Tr.blank.cs.toArray := HZ3.out.other (p := ⟨w.heap.size, 5, none⟩) (by dsimp only; omega) _
  have hRu : RowOfI (fun k t => Tr.strip k t) (w3.setCell ⟨w.heap.size, 5, none⟩ (.slice A t.parts.length c2)) (w.heap.size + 2) k t.parts.length A (t.parts) (ps) := HR3.out.only ((Only.refl w.heap.size w3).cell 5 _) (by omega)
  have hBu : Below w.heap.size w (w3.setCell ⟨w.heap.size, 5, none⟩ (.slice A t.parts.length c2)) := HB3.out.setCell (Nat.le_refl _) _
  have hone := Tr.one (Tr.node t.kind t.set A t.parts.length c2 ((List.range t.parts.length).map (ps)) t.lo t.hi t.neg)
  have HAu := Lib.hid hAu
  have HZu := Lib.hid hZu
  have HRu := Lib.hid hRu
  have HBu := Lib.hid hBu
  clear hAu hZu hRu hBu
  go_wp2_with (first
    | (refine wpList_load_row rfl 27 _ rfl w.heap.size rfl 27 (Tr.node t.kind t.set A t.parts.length c2 ((List.range t.parts.length).map (ps)) t.lo t.hi t.neg).cs.toArray (0, 0) _ HAu.out Tryz.underlying27 rfl (by kernel_rfl) ?_)
    | (with_reducible show wpList _ _ _ ({ dst := none, op := .store _ _ _, type := _, pos := _, after := _, guard := _ } :: _) _ _
       refine wpList_store_row rfl 27 _ _ rfl (w.heap.size + 1) (Tr.node t.kind t.set A t.parts.length c2 ((List.range t.parts.length).map (ps)) t.lo t.hi t.neg).cs.toArray rfl rfl 27 Tr.blank.cs.toArray HZu.out (by kernel_rfl) rfl hone ?_) | fail)
  have hO : Only (w.heap.size + 1) (w3.setCell ⟨w.heap.size, 5, none⟩ (.slice A t.parts.length c2)) ((w3.setCell ⟨w.heap.size, 5, none⟩ (.slice A t.parts.length c2)).setRow (w.heap.size + 1) (Tr.node t.kind t.set A t.parts.length c2 ((List.range t.parts.length).map (ps)) t.lo t.hi t.neg).cs.toArray) := Only.row _ _ _
  obtain ⟨m1, m2, m3⟩ := made_inI (c := c2) (lo := t.lo) (hi := t.hi) (neg := t.neg) (kd := t.kind) HI.out.1.1 HI.out.1.2.1 HI.out.1.2.2.1 HI.out.1.2.2.2 (by rfl) HSl.out.1 (HRu.out.only hO (by omega))
  exact bodyPost_ret (results_cell_row Tryz.results52 _ _ (w.heap.size + 1) 27 (Tr.node t.kind t.set A t.parts.length c2 ((List.range t.parts.length).map (ps)) t.lo t.hi t.neg).cs.toArray (0, 0) _ rfl (HZu.out.row _) Tryz.underlying27 rfl (by kernel_rfl)) rfl ⟨_, rfl, m1, m2.lower (by omega), m3.trans (by rfl), HBu.out.trans (hO.below (by omega))⟩

theorem copied : ∀ k, MakesI 52 (fun k t => Tr.strip k t) k
  | 0 => fun _ _ h => h.elim
  | k + 1 => fun t w h hs => copied_step k (copied k) t w h hs

end Go.Proofs.YtcghclikkeajfaaGreat

/- parse.judge and tree.Clone. -/
namespace Go.Proofs.YtcghclikkeajfaaGreat
open Go.RowKit
set_option linter.unusedSimpArgs false
set_option linter.unusedVariables false

theorem sol_any {w : World} : ∀ (k m : Nat) (t : Tr), Tr.In w m t → Tr.Sol w k t → Tr.In w k t → Tr.Sol w m t
  | _, 0, _, h, _, _ => h.elim
  | 0, _ + 1, _, _, _, h => h.elim
  | k + 1, m + 1, t, h, hs, h' => ⟨hs.1, fun p hp => by
      obtain ⟨j, hj, rfl⟩ := List.getElem_of_mem hp
      exact sol_any k m _ (h.2.2.2 j hj) (hs.2 _ hp) (h'.2.2.2 j hj)⟩
set_option maxRecDepth 100000 in
set_option maxHeartbeats 8000000 in
theorem tClone (t : Tr) (w : World) (h : Tr.Ins w 40 t) (hs : slimS 40 t) (hm : massS 40 t ≤ 4000000) :
    Calls Tryz.prog 23 #[.agg t.cs.toArray] w (MadeI (fun k t => Tr.strip k t) 40 t w) := by
  obtain ⟨w2, hw2⟩ : ∃ w2, w2 = (w.alloc (.cells t.cs.toArray 27)).alloc (.cells #[.int .i64 0, .int .u64 0, .int .u64 0, .int .u64 0, .int .u64 0, .slice none 0 0, .int .i64 0, .int .i64 0, .bool false] 27) := ⟨_, rfl⟩
  have HA0 : Hid (At w2 w.heap.size 27 t.cs.toArray) := Lib.hid (by rw [hw2]; exact (At.new _ _ _).alloc _)
  have HZ0 : Hid (At w2 (w.heap.size + 1) 27 Tr.blank.cs.toArray) := Lib.hid (by rw [hw2]; exact at_new' (w.alloc (.cells t.cs.toArray 27)) (w.heap.size + 1) 27 (cs := Tr.blank.cs.toArray) (by simp))
  have HB0 : Hid (Below w.heap.size w w2) := Lib.hid (by rw [hw2]; exact below_two _ _)
  have HW2 := Lib.hid hw2
  have hA : At ((w.alloc (.cells t.cs.toArray 27)).alloc (.cells #[.int .i64 0, .int .u64 0, .int .u64 0, .int .u64 0, .int .u64 0, .slice none 0 0, .int .i64 0, .int .i64 0, .bool false] 27)) w.heap.size 27 t.cs.toArray := (At.new _ _ _).alloc _
  have HI := Lib.hid (h.next HB0.out)
  have HSL := Lib.hid hs
  have HM := Lib.hid hm
  clear hw2 h hs hm
  go_enter Tryz.func23, Tryz.ntmps23
  go_wp2_with (first | (refine wpList_load_row rfl 27 _ rfl w.heap.size rfl 27 t.cs.toArray (0, 0) _ hA Tryz.underlying27 rfl (by kernel_rfl) ?_) | fail)
  rw [← HW2.out]
  clear hA
  refine (tDeep 40 t w2 HI.out HM.out).mono ?_
  rintro e w3 ⟨d, rfl, hd1, hd2, hd3, hb3⟩
  have hdd : ¬ (40 : Int) < (d : Int) := by omega
  have HA3 := Lib.hid (At.below HA0.out hb3 HA0.out.lt)
  have HZ3 := Lib.hid (At.below HZ0.out hb3 HZ0.out.lt)
  have HI3 := Lib.hid (HI.out.next hb3)
  have HB3 := Lib.hid (HB0.out.trans (hb3.mono HB0.out.size))
  clear hd1 hd2 hd3 hb3
  go_wp2_with (first | (refine wpList_load_row rfl 27 _ rfl w.heap.size rfl 27 t.cs.toArray (0, 0) _ HA3.out Tryz.underlying27 rfl (by kernel_rfl) ?_) | fail)
  refine (copied 40 t w3 HI3.out.1 HSL.out).mono ?_
  rintro e w4 ⟨t2, rfl, hin, hfr, hst, hb4⟩
  have HZ4 := Lib.hid (At.below HZ3.out hb4 HZ3.out.lt)
  have HB4 := Lib.hid (HB3.out.trans (hb4.mono HB3.out.size))
  have HIn := Lib.hid hin
  have HF4 := Lib.hid hfr
  have HST := Lib.hid hst
  have HSz : Hid (w.heap.size + 2 ≤ w3.heap.size) := Lib.hid HZ3.out.lt
  have hone := Tr.one t2
  clear hin hfr hst hb4
  go_wp2_with (first
    | (with_reducible show wpList _ _ _ ({ dst := none, op := .store _ _ _, type := _, pos := _, after := _, guard := _ } :: _) _ _
       refine wpList_store_row rfl 27 _ _ rfl (w.heap.size + 1) t2.cs.toArray rfl rfl 27 Tr.blank.cs.toArray HZ4.out (by kernel_rfl) rfl hone ?_) | fail)
  have ho : Only (w.heap.size + 1) w4 (w4.setRow (w.heap.size + 1) t2.cs.toArray) := Only.row _ _ _
  exact bodyPost_ret (results_cell_row Tryz.results23 _ _ (w.heap.size + 1) 27 t2.cs.toArray (0, 0) _ rfl (HZ4.out.row _) Tryz.underlying27 rfl (by kernel_rfl)) rfl ⟨t2, rfl, HIn.out.only HF4.out ho (by have := HSz.out; omega), HF4.out.lower (by have := HSz.out; omega), HST.out, HB4.out.trans (ho.below (by omega))⟩

end Go.Proofs.YtcghclikkeajfaaGreat

/- A formed pattern has at most 1000 nodes. -/
namespace Go.Proofs.YtcghclikkeajfaaGreat
open Go.RowKit
set_option linter.unusedSimpArgs false
set_option linter.unusedVariables false

/- A formed pattern has at most 1000 nodes. -/
theorem sumS_mass (k : Nat) : ∀ (l : List Tr), (∀ p ∈ l, 1 ≤ sizeS k p) → (∀ p ∈ l, sizeS k p ≤ 1000 → (massS k p : Int) ≤ sizeS k p) → sumS (l.map (sizeS k)) ≤ 1000 → ((l.map (massS k)).sum : Int) ≤ sumS (l.map (sizeS k)) := by
  have key : ∀ r : List Tr, (∀ p ∈ r, 1 ≤ sizeS k p) → (∀ p ∈ r, sizeS k p ≤ 1000 → (massS k p : Int) ≤ sizeS k p) → sumS (r.map (sizeS k)).reverse ≤ 1000 → ((r.map (massS k)).sum : Int) ≤ sumS (r.map (sizeS k)).reverse := fun r => by
    induction r with
    | nil => exact fun _ _ _ => by show (0 : Int) ≤ sumS []; exact Int.le_refl 0
    | cons a r ih =>
      intro h0 h1 h2
      have em : ((a :: r).map (sizeS k)).reverse = (r.map (sizeS k)).reverse ++ [sizeS k a] := by rw [List.map_cons, List.reverse_cons]
      rw [em, sumS_snoc] at h2 ⊢
      have hge : 0 ≤ sumS (r.map (sizeS k)).reverse := sumS_ge _ (fun x hx => by
        rw [List.mem_reverse, List.mem_map] at hx
        obtain ⟨p, _, rfl⟩ := hx
        exact sizeS_ge k p)
      have ha := h0 a (by simp)
      have hc : ¬ 1001 < sumS (r.map (sizeS k)).reverse + sizeS k a := fun q => by rw [cut1001_yes q] at h2; omega
      rw [cut1001_no hc] at h2 ⊢
      have h3 := ih (fun p hp => h0 p (List.mem_cons_of_mem _ hp)) (fun p hp => h1 p (List.mem_cons_of_mem _ hp)) (by omega)
      have h4 := h1 a (by simp) (by omega)
      rw [List.map_cons, List.sum_cons]
      omega
  intro l h0 h1 h2
  have h5 : (l.reverse.map (sizeS k)).reverse = l.map (sizeS k) := by rw [List.map_reverse, List.reverse_reverse]
  have h6 : (l.reverse.map (massS k)).sum = (l.map (massS k)).sum := by rw [List.map_reverse, List.sum_reverse]
  have := key l.reverse (fun p hp => h0 p (by simpa using hp)) (fun p hp => h1 p (by simpa using hp)) (by rw [h5]; exact h2)
  rw [h5, h6] at this
  exact this
theorem mass_size : ∀ (k : Nat) (t : Tr), Tr.Lv k t → sizeS k t ≤ 1000 → (massS k t : Int) ≤ sizeS k t
  | 0, _, h, _ => h.elim
  | k + 1, t, hl, h => by
    have hs := size_sum h
    have h0 : 0 ≤ sumS (t.parts.map (sizeS k)) := by
      have := sizeTo_ge k t t.parts.length
      unfold sizeTo at this
      rwa [List.take_length] at this
    have h1 := sumS_mass k t.parts (fun p hp => size_pos k p (hl p hp)) (fun p hp q => mass_size k p (hl p hp) q) (by omega)
    have h' : cut1001 ((if t.kind = 7 then sumS (t.parts.map (sizeS k)) * timesS t.lo t.hi else sumS (t.parts.map (sizeS k))) + 1) ≤ 1000 := h
    have h2 : sumS (t.parts.map (sizeS k)) + 1 ≤ cut1001 ((if t.kind = 7 then sumS (t.parts.map (sizeS k)) * timesS t.lo t.hi else sumS (t.parts.map (sizeS k))) + 1) := by
      have hm : sumS (t.parts.map (sizeS k)) * 1 ≤ sumS (t.parts.map (sizeS k)) * timesS t.lo t.hi := Int.mul_le_mul_of_nonneg_left (times_pos _ _) h0
      rw [Int.mul_one] at hm
      unfold cut1001 at h' ⊢
      (repeat' split at h') <;> (repeat' split) <;> omega
    show ((1 + (t.parts.map (massS k)).sum : Nat) : Int) ≤ _
    have h3 : sizeS (k + 1) t = cut1001 ((if t.kind = 7 then sumS (t.parts.map (sizeS k)) * timesS t.lo t.hi else sumS (t.parts.map (sizeS k))) + 1) := rfl
    rw [h3]
    omega
theorem deep_lv : ∀ (k m : Nat) (t : Tr), Tr.Lv k t → deepS k m t ≤ m → Tr.Lv m t
  | 0, _, _, h, _ => h.elim
  | k + 1, m, t, h, hd => by
    have h1 : 1 ≤ m := by
      rcases Nat.eq_zero_or_pos m with q | q
      · subst q
        have : deepS (k + 1) ((0 : Nat) : Int) t = 1 := by show (if ((0 : Nat) : Int) < 1 then 1 else _) = 1; rw [if_pos (by decide)]
        omega
      · exact q
    obtain ⟨m', rfl⟩ : ∃ m', m = m' + 1 := ⟨m - 1, by omega⟩
    intro p hp
    obtain ⟨j, hj, rfl⟩ := List.getElem_of_mem hp
    have := (deep_part hd hj).2
    exact deep_lv k m' _ (h _ hp) (by have e : ((m' + 1 : Nat) : Int) - 1 = (m' : Int) := by omega
                                      rw [e] at this; exact this)
theorem FormedT.lv40 {t : Tr} (h : FormedT t) : Tr.Lv 40 t ∧ isFormed 40 t = true := by
  obtain ⟨k, hl, hf⟩ := id h
  have h40 : Tr.Lv 40 t := deep_lv k 40 t hl (isFormed_deep hf)
  exact ⟨h40, h.at h40⟩
end Go.Proofs.YtcghclikkeajfaaGreat
