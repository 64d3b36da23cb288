/- parse.Parse. -/
import Derived.Test.YtkbfoelffeocmaaParseG
import Derived.Test.YtkbfoelffeocmaaJudge
import Derived.Test.YtkbfoelffeocmaaWordOk
import Derived.Test.YtkbfoelffeocmaaWordsLex
import Derived.Deep.QuietTactic
import Derived.BigQuiet
namespace Go.Proofs.Ytkbfoelffeocmaa
open Go.RowKit
set_option linter.unusedSimpArgs false
set_option linter.unusedVariables false

theorem wds_in {w : World} {base g : Nat} {v : Value} {l : List (Wd × Nat)} (h : Wds w base v l) (hg : ∀ b, v.ownBlock = some b → b < g) : WordsIn w g v l := by
  obtain ⟨hl, h | ⟨b, cap, cur, e, hb, hh, h1, h2, h3, h4⟩⟩ := h
  · have hl0 : l = [] := List.eq_nil_of_length_eq_zero h.2
    subst hl0
    rw [h.1]; exact WordsIn.nil _ _
  · refine ⟨some ⟨b, 0, none⟩, cap, e, ⟨h1, by unfold maxLen at h2; omega⟩, fun h0 => ⟨b, 0, rfl, hg b (by rw [e]; rfl), fun j hj i u hu => ?_⟩⟩
    have hA : At w b 57 cur := hh
    have hi : i < 9 := by
      have := (List.getElem?_eq_some_iff.1 hu).1
      simpa [wdCells] using this
    rw [Nat.zero_add, hA.cell]
    have e2 : cur[j * 9 + i]? = (cur.toList.take (l.length * 9))[j * 9 + i]? := by
      rw [List.getElem?_take_of_lt (by omega)]; simp
    rw [e2, h4, wl_at l j i hj hi]
    simpa using hu
/-- What the parser makes of a text's words. -/
def pS (s : ByteArray) (ds : List (ByteArray × Tr)) : Tr × PSt := wholeS s.size ds ((wordsS s).1.length + 1) ⟨(wordsS s).1, 0, 0, 0⟩
def PErr (s : ByteArray) (ds : List (ByteArray × Tr)) (p q : Int) : Prop :=
  ((wordsS s).2.2 ≠ 0 ∧ p = (wordsS s).2.1 ∧ q = (wordsS s).2.2) ∨ ((wordsS s).2.2 = 0 ∧ (pS s ds).2.flt ≠ 0 ∧ p = (pS s ds).2.place ∧ q = (pS s ds).2.flt) ∨
    ((wordsS s).2.2 = 0 ∧ (pS s ds).2.flt = 0 ∧ ¬ FormedT (pS s ds).1 ∧ p = 0 ∧ (q = 8 ∨ q = 9 ∨ q = 2))
def ParsePost (s : ByteArray) (ds : List (ByteArray × Tr)) (w : World) (e : Ending) (w' : World) : Prop :=
  ∃ (t : Tr) (p q : Int), e = .returned (.tuple #[.agg t.cs.toArray, .int .i64 p, .int .i64 q]) ∧ Below w.heap.size w w' ∧
    (q ≠ 0 ∧ t = Tr.blank ∧ PErr s ds p q ∨
     q = 0 ∧ p = 0 ∧ (wordsS s).2.2 = 0 ∧ (pS s ds).2.flt = 0 ∧ FormedT (pS s ds).1 ∧ Tr.Ins w' 40 t ∧ Tr.From w.heap.size 40 t ∧ t.strip 40 = (pS s ds).1.strip 40)
theorem whole_good (E : Nat) (ds : List (ByteArray × Tr)) (n : Nat) (s : PSt) (hn : s.ws.length < n) : (wholeS E ds n s).2.ws <:+ s.ws := by
  have h := or_good (E := E) (f := n) (not_good (E := E) (ds := ds) n).1 s hn
  unfold wholeS
  dsimp only
  split
  · exact h.1
  · exact (fail_ws _ _ _).trans h.1
theorem Tr.In.step1 {w : World} {k : Nat} {t : Tr} (h : Tr.In w k t) : 1 ≤ k := by
  cases k with
  | zero => exact h.elim
  | succ k => omega
theorem lv_strip_eq {w : World} {lo hi : Nat} {t T : Tr} (h : Tr.Is w lo hi t T) : ∃ k, Tr.Ins w k t ∧ t.strip k = T ∧ Tr.Lv k T ∧ T.strip k = T ∧ ∀ k', k ≤ k' → t.strip k' = T := by
  obtain ⟨k, h1, _, h3⟩ := h
  refine ⟨k, h1, h3 k (Nat.le_refl _), ?_, ?_, h3⟩
  · rw [← h3 k (Nat.le_refl _)]; exact Tr.Lv.strip k t h1.1.lv
  · rw [← h3 k (Nat.le_refl _)]; exact strip_strip k t
theorem formed_pass {k : Nat} {t T : Tr} (h : t.strip k = T) (hs : T.strip k = T) (hl : Tr.Lv k T) : isFormed k t = true ↔ FormedT T := by
  have e : isFormed k t = isFormed k T := isFormed_strip (by rw [h, hs])
  rw [e]
  exact ⟨fun q => ⟨k, hl, q⟩, fun q => q.at hl⟩
theorem mass_strip : ∀ (k m : Nat) (t : Tr), massS k (t.strip (k + m)) = massS k t
  | 0, _, _ => rfl
  | k + 1, m, t => by
    rw [show k + 1 + m = (k + m) + 1 by omega]
    show 1 + ((t.parts.map (Tr.strip (k + m))).map (massS k)).sum = 1 + (t.parts.map (massS k)).sum
    rw [List.map_map]
    congr 2
    exact List.map_congr_left (fun p _ => mass_strip k m p)
theorem mass_mono : ∀ (k : Nat) (t : Tr), massS k t ≤ massS (k + 1) t
  | 0, t => mass_pos 1 t
  | k + 1, t => by
    have : ∀ l : List Tr, (l.map (massS k)).sum ≤ (l.map (massS (k + 1))).sum := fun l => by
      induction l with
      | nil => exact Nat.le_refl _
      | cons a r ih => have := mass_mono k a; rw [List.map_cons, List.map_cons, List.sum_cons, List.sum_cons]; omega
    have := this t.parts
    show 1 + _ ≤ 1 + _
    omega
theorem mass_lv : ∀ (k : Nat) (t : Tr), Tr.Lv k t → massS (k + 1) t = massS k t
  | 0, _, h => h.elim
  | k + 1, t, h => by
    show 1 + (t.parts.map (massS (k + 1))).sum = 1 + (t.parts.map (massS k)).sum
    rw [map_congr' (fun p hp => mass_lv k p (h p hp))]
theorem mass_pass {k : Nat} {t T : Tr} (hl : Tr.Lv k t) (h : t.strip k = T) (hm : ∀ k, massS k T ≤ 4000000) : ∀ k', massS k' t ≤ 4000000 := by
  have h0 : massS k t ≤ 4000000 := by
    have := hm k
    rw [← h] at this
    have e := mass_strip k 0 t
    rw [Nat.add_zero] at e
    rwa [e] at this
  have up : ∀ d, massS (k + d) t ≤ 4000000 ∧ Tr.Lv (k + d) t := fun d => by
    induction d with
    | zero => exact ⟨h0, hl⟩
    | succ d ih => exact ⟨by have := mass_lv (k + d) t ih.2; show massS (k + d + 1) t ≤ _; rw [this]; exact ih.1, Tr.Lv.up _ _ ih.2⟩
  intro k'
  rcases Nat.le_total k k' with q | q
  · have := (up (k' - k)).1
    rwa [show k + (k' - k) = k' by omega] at this
  · have down : ∀ d, massS k' t ≤ massS (k' + d) t := fun d => by
      induction d with
      | zero => exact Nat.le_refl _
      | succ d ih => exact Nat.le_trans ih (mass_mono (k' + d) t)
    have := down (k - k')
    rw [show k' + (k - k') = k by omega] at this
    omega
theorem mass_all {k M : Nat} {t : Tr} (hl : Tr.Lv k t) (h0 : massS k t ≤ M) : ∀ k', massS k' t ≤ M := by
  have up : ∀ d, massS (k + d) t ≤ M ∧ Tr.Lv (k + d) t := fun d => by
    induction d with
    | zero => exact ⟨h0, hl⟩
    | succ d ih => exact ⟨by have := mass_lv (k + d) t ih.2; show massS (k + d + 1) t ≤ _; rw [this]; exact ih.1, Tr.Lv.up _ _ ih.2⟩
  intro k'
  rcases Nat.le_total k k' with q | q
  · have := (up (k' - k)).1
    rwa [show k + (k' - k) = k' by omega] at this
  · have down : ∀ d, massS k' t ≤ massS (k' + d) t := fun d => by
      induction d with
      | zero => exact Nat.le_refl _
      | succ d ih => exact Nat.le_trans ih (mass_mono (k' + d) t)
    have := down (k - k')
    rw [show k' + (k - k') = k by omega] at this
    omega
theorem slim_any : ∀ (k m : Nat) (t : Tr), Tr.Lv k t → slimS k t → slimS m t
  | 0, _, _, h, _ => h.elim
  | _ + 1, 0, _, _, _ => trivial
  | k + 1, m + 1, t, h, hs => ⟨hs.1, fun p hp => slim_any k m p (h p hp) (hs.2 p hp)⟩
theorem strip_down : ∀ (k m : Nat) (t : Tr), (t.strip (k + m)).strip k = t.strip k
  | 0, _, _ => rfl
  | k + 1, m, t => by
    rw [show k + 1 + m = (k + m) + 1 by omega]
    show Tr.node t.kind t.set none (t.parts.map (Tr.strip (k + m))).length 0 ((t.parts.map (Tr.strip (k + m))).map (Tr.strip k)) t.lo t.hi t.neg = Tr.node t.kind t.set none t.parts.length 0 (t.parts.map (Tr.strip k)) t.lo t.hi t.neg
    rw [List.length_map, List.map_map]
    congr 1
    exact List.map_congr_left (fun p _ => strip_down k m p)
theorem results_row_tmps {P : Program} {fn : Func} {p u v : Tmp} {ty : TypeId} (h : fn.results = #[.cell p ty, .tmp u, .tmp v]) (tmps : Array Value) (w : World) (g : Nat) (t : TypeId) (cs : Array Value) (fr : Nat × Nat) (d : TypeDesc)
    (hp : tmps.getD p undef = .pointer (some ⟨g, 0, none⟩)) (hg : w.heap[g]? = some (.cells cs t fr))
    (hu : P.underlying ty = some d) (hd : (match d with | .struct _ | .array _ _ => true | _ => false) = true) (hi : (P.info? ty).map (·.size) = some cs.size) :
    (results fn tmps).run P w = .ok (.tuple #[.agg cs, tmps.getD u undef, tmps.getD v undef]) w := by
  have hp' : tmps[p]?.getD undef = .pointer (some ⟨g, 0, none⟩) := by simpa using hp
  simp [results, h, hp', asAddr, run_loadVar_row w g t ty cs fr d hg hu hd hi]
/-- The parser in a new variable. -/
def boxS (w : World) (s : PSt) (v : Value) (E : Nat) (D : Value) : World := (w.alloc (.cells #[.slice none 0 0, .int .i64 0, .slice none 0 0, .int .i64 0, .int .i64 0, .int .i64 0] 71)).setRow w.heap.size (s.cs v E D)
theorem boxS_at (w : World) (s : PSt) (v : Value) (E : Nat) (D : Value) : At (boxS w s v E D) w.heap.size 71 (s.cs v E D) := At.row (At.new w 71 #[.slice none 0 0, .int .i64 0, .slice none 0 0, .int .i64 0, .int .i64 0, .int .i64 0]) _
theorem boxS_next (w : World) (s : PSt) (v : Value) (E : Nat) (D : Value) : Below w.heap.size w (boxS w s v E D) := ((Below.refl _ _).alloc (Nat.le_refl _) _).trans ((Only.row _ _ _).below (Nat.le_refl _))

set_option maxRecDepth 100000 in
set_option maxHeartbeats 16000000 in
theorem tParse (s : ByteArray) (hs : s.size ≤ 20000) (A : Option Addr) (n c : Nat) (ds : List (ByteArray × Tr)) (w : World) (hD : DefsIn w (.slice A n c) ds) (hmass : (pS s ds).2.flt = 0 → ∀ k, massS k (pS s ds).1 ≤ 4000000) :
    Calls Try.prog 18 #[.string s, .slice A n c] w (ParsePost s ds w) := by
  obtain ⟨w1, hw1⟩ : ∃ w1, w1 = w.alloc (.cells #[.int .i64 0, .int .u64 0, .int .u64 0, .int .u64 0, .int .u64 0, .slice none 0 0, .int .i64 0, .int .i64 0, .bool false] 34) := ⟨_, rfl⟩
  have hb1 : Below w.heap.size w w1 := by rw [hw1]; exact (Below.refl _ _).alloc (Nat.le_refl _) _
  have hz1 : At w1 w.heap.size 34 Tr.blank.cs.toArray := by rw [hw1]; exact At.new _ _ _
  have HZ1 := Lib.hid hz1
  have HB1 := Lib.hid hb1
  have HW1 := Lib.hid hw1
  have HD := Lib.hid hD
  have HMS := Lib.hid hmass
  have honeB := Tr.one Tr.blank
  clear hb1 hz1 hw1 hD hmass
  go_enter Try.func18, Try.ntmps18
  go_wp2_with fail
  rw [← HW1.out]
  refine (lexWords s hs w1).mono ?_
  rintro e w2 ⟨v, l, p, q, hwd, rfl, hwds, hb2⟩
  have HWD := Lib.hid hwd
  have HWS := Lib.hid hwds
  have HZ2 := Lib.hid (At.below HZ1.out hb2 HZ1.out.lt)
  have HB2 := Lib.hid (HB1.out.trans (hb2.mono HB1.out.size))
  clear hwd hwds hb2
  by_cases hq : q = 0
  · subst hq
    have hown : ∀ b, v.ownBlock = some b → b < w2.heap.size := fun b e => (World.ownsRow.lt HWS.out b e).2
    have HPS : Hid (pS s ds = wholeS s.size ds (l.length + 1) ⟨l, 0, 0, 0⟩) := Lib.hid (by unfold pS; rw [HWD.out])
    have hbs := boxS_next w2 ⟨l, 0, 0, 0⟩ v s.size (.slice A n c)
    have HP3 : Hid (PAt (boxS w2 ⟨l, 0, 0, 0⟩ v s.size (.slice A n c)) w2.heap.size s.size (.slice A n c) ⟨l, 0, 0, 0⟩) := Lib.hid ⟨v, wds_in (HWS.out.next hbs) (fun b e => by
        exact hown b e), boxS_at w2 ⟨l, 0, 0, 0⟩ v s.size (.slice A n c)⟩
    have HZ3 := Lib.hid (At.below HZ2.out hbs HZ2.out.lt)
    have HB3 := Lib.hid (HB2.out.trans (hbs.mono HB2.out.size))
    have hwa := words_at s
    rw [HWD.out] at hwa
    have HWA := Lib.hid hwa
    have HWK : Hid (WsOk l) := Lib.hid (fun y hy => words_ok s y (by rw [HWD.out]; exact hy))
    obtain ⟨A2, cap2, rfl⟩ := HWS.out.len
    have honeS : ((⟨l, 0, 0, 0⟩ : PSt).cs (.slice A2 l.length cap2) s.size (.slice A n c)).all (·.oneCell') = true := by simp [PSt.cs, Value.oneCell']
    clear hbs hwa hown
    go_wp2_with (first
      | (with_reducible show wpList _ _ _ ({ dst := none, op := .store 71 _ _, type := _, pos := _, after := _, guard := _ } :: _) _ _
         refine wpList_store_row rfl 71 _ _ rfl w2.heap.size ((⟨l, 0, 0, 0⟩ : PSt).cs (.slice A2 l.length cap2) s.size (.slice A n c)) rfl rfl 71 #[.slice none 0 0, .int .i64 0, .slice none 0 0, .int .i64 0, .int .i64 0, .int .i64 0] (At.new _ _ _) (by kernel_rfl) rfl honeS ?_
         change Exit.then _ _ _ _ (boxS w2 ⟨l, 0, 0, 0⟩ (.slice A2 l.length cap2) s.size (.slice A n c)))
      | fail)
    refine (pWhole w w2.heap.size s.size (.slice A n c) ds HD.out (l.length + 1) hs HB2.out.size ⟨l, 0, 0, 0⟩ _ HP3.out HB3.out HWK.out (Nat.lt_succ_self _) (Int.le_refl _) (by have := HWA.out.1; dsimp only; omega)).mono ?_
    rintro e w4 ⟨t, rfl, hi, hp, hg⟩
    have HG3 : Hid (w2.heap.size < (boxS w2 ⟨l, 0, 0, 0⟩ (.slice A2 l.length cap2) s.size (.slice A n c)).heap.size) := Lib.hid HP3.out.lt
    rw [← HPS.out] at hi hp
    have hbx := boxW_next w4 t
    have HP5 := Lib.hid (hp.next hbx)
    have HZ5 := Lib.hid (At.below (At.grown' HZ3.out hg (fun q => by injection q with q; have := HZ2.out.lt; omega)) hbx (Nat.lt_of_lt_of_le HZ3.out.lt hg.size))
    have hlo : Below w.heap.size (boxS w2 ⟨l, 0, 0, 0⟩ (.slice A2 l.length cap2) s.size (.slice A n c)) w4 := (grownBy_lo hg (Nat.le_of_lt HG3.out)).mono HB2.out.size
    have HB5 := Lib.hid ((HB3.out.trans hlo).trans (hbx.mono (Nat.le_trans HB3.out.size hg.size)))
    have HT5 := Lib.hid (hi.next hbx)
    have HX5 := Lib.hid (boxW_at w4 t)
    have hone := Tr.one t
    obtain ⟨v5, _, _, c0, c1, c2, c3, c4, c5, hf⟩ := HP5.out.c0
    clear c0 c1 c2 c3 hi hp hg hbx hlo
    by_cases hfl : (pS s ds).2.flt = 0
    · rw [hfl] at c4
      have HFL := Lib.hid hfl
      have HM5 := Lib.hid (HMS.out hfl)
      clear hfl c5 hf
      obtain ⟨kt, hins, hst, hlv, hss, hall⟩ := lv_strip_eq HT5.out
      have hmt : ∀ k', massS k' t ≤ 4000000 := mass_pass hins.1.lv hst HM5.out
      have HIN := Lib.hid hins
      have HMT := Lib.hid hmt
      have HFP := Lib.hid (formed_pass hst hss hlv)
      have HAL := Lib.hid hall
      clear hins hst hlv hss hmt hall
      go_wp2_with (first
        | (with_reducible show wpList _ _ _ ({ dst := none, op := .store _ _ _, type := _, pos := _, after := _, guard := _ } :: _) _ _
           refine wpList_store_row rfl 34 _ _ rfl w4.heap.size t.cs.toArray rfl rfl 34 Tr.blank.cs.toArray (At.new _ _ _) (by kernel_rfl) rfl hone ?_
           change Exit.then _ _ _ _ (boxW w4 t))
        | (refine wpList_load_row rfl 34 _ rfl w4.heap.size rfl 34 t.cs.toArray (0, 0) _ HX5.out Try.underlying34 rfl (by kernel_rfl) ?_)
        | fail)
      refine (tJudge kt t (boxW w4 t) HIN.out HMT.out).mono ?_
      rintro e w6 ⟨q, rfl, hq, hb6⟩
      have HZ6 := Lib.hid (At.below HZ5.out hb6 HZ5.out.lt)
      have HB6 := Lib.hid (HB5.out.trans (hb6.mono HB5.out.size))
      have HX6 := Lib.hid (At.below HX5.out hb6 HX5.out.lt)
      have HIN6 := Lib.hid (HIN.out.next hb6)
      clear hb6 c4
      rcases hq with ⟨rfl, hfm⟩ | ⟨hq, hfm⟩
      · have HFM := Lib.hid hfm
        have h40 := deep_in kt 40 t HIN6.out.1 (isFormed_deep hfm)
        have hsl40 : slimS 40 t := slim_any kt 40 t HIN6.out.1.lv (isFormed_slim HIN6.out.1.lv hfm)
        have H40 : Hid (Tr.Ins w6 40 t) := Lib.hid ⟨h40, sol_any kt 40 t h40 HIN6.out.2 HIN6.out.1⟩
        have HSL := Lib.hid hsl40
        clear hfm h40 hsl40
        go_wp2_with (first
          | (refine wpList_load_row rfl 34 _ rfl w4.heap.size rfl 34 t.cs.toArray (0, 0) _ HX6.out Try.underlying34 rfl (by kernel_rfl) ?_)
          | fail)
        refine (tClone t w6 H40.out HSL.out (HMT.out 40)).mono ?_
        rintro e w7 ⟨t2, rfl, hin, hfr, hst, hb7⟩
        have HZ7 := Lib.hid (At.below HZ6.out hb7 HZ6.out.lt)
        have HB7 := Lib.hid (HB6.out.trans (hb7.mono HB6.out.size))
        have hone2 := Tr.one t2
        have HR : Hid (Tr.Ins w7 40 t2 ∧ Tr.From w6.heap.size 40 t2 ∧ t2.strip 40 = t.strip 40) := Lib.hid ⟨hin, hfr, hst⟩
        clear hin hfr hst hb7
        go_wp2_with (first
          | (with_reducible show wpList _ _ _ ({ dst := none, op := .store _ _ _, type := _, pos := _, after := _, guard := _ } :: _) _ _
             refine wpList_store_row rfl 34 _ _ rfl w.heap.size t2.cs.toArray rfl rfl 34 Tr.blank.cs.toArray HZ7.out (by kernel_rfl) rfl hone2 ?_)
          | fail)
        have ho : Only w.heap.size w7 (w7.setRow w.heap.size t2.cs.toArray) := Only.row _ _ _
        have hz6 := HZ6.out.lt
        have e40 : t.strip 40 = (pS s ds).1.strip 40 := by
          have h1 := HAL.out (40 + kt) (by omega)
          rw [← h1, strip_down]
        exact bodyPost_ret (results_row_tmps Try.results18 _ _ w.heap.size 34 t2.cs.toArray (0, 0) _ rfl (HZ7.out.row _) Try.underlying34 rfl (by kernel_rfl)) rfl ⟨t2, 0, 0, rfl, HB7.out.trans (ho.below (Nat.le_refl _)), Or.inr ⟨rfl, rfl, by rw [HWD.out], HFL.out, HFP.out.1 HFM.out, HR.out.1.only HR.out.2.1 ho hz6, HR.out.2.1.lower (Nat.le_of_lt hz6), HR.out.2.2.trans e40⟩⟩
      · have HQ := Lib.hid hq
        have HNF : Hid (¬ FormedT (pS s ds).1) := Lib.hid (fun x => by have := HFP.out.2 x; rw [hfm] at this; cases this)
        have hq0 : ¬ q = 0 := by omega
        have hqb := (int_ne hq0).2
        clear hq hfm hq0
        go_wp2_with (first
          | (with_reducible show wpList _ _ _ ({ dst := none, op := .store _ _ _, type := _, pos := _, after := _, guard := _ } :: _) _ _
             refine wpList_store_row rfl 34 _ _ rfl w.heap.size Tr.blank.cs.toArray rfl rfl 34 Tr.blank.cs.toArray HZ6.out (by kernel_rfl) rfl honeB ?_)
          | fail)
        have ho : Only w.heap.size w6 (w6.setRow w.heap.size Tr.blank.cs.toArray) := Only.row _ _ _
        exact bodyPost_ret (results_row_tmps Try.results18 _ _ w.heap.size 34 Tr.blank.cs.toArray (0, 0) _ rfl (HZ6.out.row _) Try.underlying34 rfl (by kernel_rfl)) rfl ⟨Tr.blank, 0, q, rfl, HB6.out.trans (ho.below (Nat.le_refl _)), Or.inl ⟨by have := HQ.out; omega, rfl, Or.inr (Or.inr ⟨by rw [HWD.out], HFL.out, HNF.out, rfl, HQ.out⟩)⟩⟩
    · have f4 := hf 4
      have f5 := hf 5
      have HFL := Lib.hid hfl
      have hfb := (int_ne hfl).2
      clear hfl hf
      go_wp2_with (first
        | (with_reducible show wpList _ _ _ ({ dst := none, op := .store _ _ _, type := _, pos := _, after := _, guard := _ } :: _) _ _
           refine wpList_store_row rfl 34 _ _ rfl w4.heap.size t.cs.toArray rfl rfl 34 Tr.blank.cs.toArray (At.new _ _ _) (by kernel_rfl) rfl hone ?_
           change Exit.then _ _ _ _ (boxW w4 t))
        | fail)
      clear honeB hone honeS
      have z0 : (boxW w4 t).cell? ⟨w.heap.size, 0, none⟩ = some (.int .i64 0) := HZ5.out.cell 0
      have y0 := HZ5.out.free 0
      have z1 : (boxW w4 t).cell? ⟨w.heap.size, 1, none⟩ = some (.int .u64 0) := HZ5.out.cell 1
      have y1 := HZ5.out.free 1
      have z2 : (boxW w4 t).cell? ⟨w.heap.size, 2, none⟩ = some (.int .u64 0) := HZ5.out.cell 2
      have y2 := HZ5.out.free 2
      have z3 : (boxW w4 t).cell? ⟨w.heap.size, 3, none⟩ = some (.int .u64 0) := HZ5.out.cell 3
      have y3 := HZ5.out.free 3
      have z4 : (boxW w4 t).cell? ⟨w.heap.size, 4, none⟩ = some (.int .u64 0) := HZ5.out.cell 4
      have y4 := HZ5.out.free 4
      have z5 : (boxW w4 t).cell? ⟨w.heap.size, 5, none⟩ = some (.slice none 0 0) := HZ5.out.cell 5
      have y5 := HZ5.out.free 5
      have z6 : (boxW w4 t).cell? ⟨w.heap.size, 6, none⟩ = some (.int .i64 0) := HZ5.out.cell 6
      have y6 := HZ5.out.free 6
      have z7 : (boxW w4 t).cell? ⟨w.heap.size, 7, none⟩ = some (.int .i64 0) := HZ5.out.cell 7
      have y7 := HZ5.out.free 7
      have z8 : (boxW w4 t).cell? ⟨w.heap.size, 8, none⟩ = some (.bool false) := HZ5.out.cell 8
      have y8 := HZ5.out.free 8
      have hne1 : ¬ w2.heap.size = w.heap.size := by have := HZ2.out.lt; omega
      have hne2 : ¬ w.heap.size = w2.heap.size := fun q => hne1 q.symm
      go_region
      go_wp2_with fail
      have hA9 : At ((((((((((boxW w4 t).setCell ⟨w.heap.size, 0, none⟩ (.int .i64 0)).setCell ⟨w.heap.size, 1, none⟩ (.int .u64 0)).setCell ⟨w.heap.size, 2, none⟩ (.int .u64 0)).setCell ⟨w.heap.size, 3, none⟩ (.int .u64 0)).setCell ⟨w.heap.size, 4, none⟩ (.int .u64 0)).setCell ⟨w.heap.size, 5, none⟩ (.slice none 0 0)).setCell ⟨w.heap.size, 6, none⟩ (.int .i64 0)).setCell ⟨w.heap.size, 7, none⟩ (.int .i64 0)).setCell ⟨w.heap.size, 8, none⟩ (.bool false)) w.heap.size 34 Tr.blank.cs.toArray := (((((((((HZ5.out.set 0 (.int .i64 0)).set 1 (.int .u64 0)).set 2 (.int .u64 0)).set 3 (.int .u64 0)).set 4 (.int .u64 0)).set 5 (.slice none 0 0)).set 6 (.int .i64 0)).set 7 (.int .i64 0)).set 8 (.bool false))
      have hB9 : Below w.heap.size w ((((((((((boxW w4 t).setCell ⟨w.heap.size, 0, none⟩ (.int .i64 0)).setCell ⟨w.heap.size, 1, none⟩ (.int .u64 0)).setCell ⟨w.heap.size, 2, none⟩ (.int .u64 0)).setCell ⟨w.heap.size, 3, none⟩ (.int .u64 0)).setCell ⟨w.heap.size, 4, none⟩ (.int .u64 0)).setCell ⟨w.heap.size, 5, none⟩ (.slice none 0 0)).setCell ⟨w.heap.size, 6, none⟩ (.int .i64 0)).setCell ⟨w.heap.size, 7, none⟩ (.int .i64 0)).setCell ⟨w.heap.size, 8, none⟩ (.bool false)) := (((((((((HB5.out.setCell (p := ⟨w.heap.size, 0, none⟩) (Nat.le_refl _) (.int .i64 0)).setCell (p := ⟨w.heap.size, 1, none⟩) (Nat.le_refl _) (.int .u64 0)).setCell (p := ⟨w.heap.size, 2, none⟩) (Nat.le_refl _) (.int .u64 0)).setCell (p := ⟨w.heap.size, 3, none⟩) (Nat.le_refl _) (.int .u64 0)).setCell (p := ⟨w.heap.size, 4, none⟩) (Nat.le_refl _) (.int .u64 0)).setCell (p := ⟨w.heap.size, 5, none⟩) (Nat.le_refl _) (.slice none 0 0)).setCell (p := ⟨w.heap.size, 6, none⟩) (Nat.le_refl _) (.int .i64 0)).setCell (p := ⟨w.heap.size, 7, none⟩) (Nat.le_refl _) (.int .i64 0)).setCell (p := ⟨w.heap.size, 8, none⟩) (Nat.le_refl _) (.bool false))
      exact bodyPost_ret (results_row_tmps Try.results18 _ _ w.heap.size 34 Tr.blank.cs.toArray (0, 0) _ rfl hA9.drew Try.underlying34 rfl (by kernel_rfl)) rfl ⟨Tr.blank, (pS s ds).2.place, (pS s ds).2.flt, rfl, hB9.drew, Or.inl ⟨HFL.out, rfl, Or.inr (Or.inl ⟨by rw [HWD.out], HFL.out, rfl, rfl⟩)⟩⟩
  · have HQ := Lib.hid hq
    have hqb := (int_ne hq).2
    clear hq
    go_wp2_with (first
      | (with_reducible show wpList _ _ _ ({ dst := none, op := .store _ _ _, type := _, pos := _, after := _, guard := _ } :: _) _ _
         refine wpList_store_row rfl 34 _ _ rfl w.heap.size Tr.blank.cs.toArray rfl rfl 34 Tr.blank.cs.toArray HZ2.out (by kernel_rfl) rfl honeB ?_)
      | fail)
    have ho : Only w.heap.size w2 (w2.setRow w.heap.size Tr.blank.cs.toArray) := Only.row _ _ _
    exact bodyPost_ret (results_row_tmps Try.results18 _ _ w.heap.size 34 Tr.blank.cs.toArray (0, 0) _ rfl (HZ2.out.row _) Try.underlying34 rfl (by kernel_rfl)) rfl ⟨Tr.blank, p, q, rfl, HB2.out.trans (ho.below (Nat.le_refl _)), Or.inl ⟨HQ.out, rfl, Or.inl ⟨by rw [HWD.out]; exact HQ.out, by rw [HWD.out], by rw [HWD.out]⟩⟩⟩

end Go.Proofs.Ytkbfoelffeocmaa
