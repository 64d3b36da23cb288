/- A name in braces: what is one word, a Name; macro.isName, macro.judgeNames. -/
import Derived.Test.YtkbfoelffeocmaaMd
import Derived.Test.YtkbfoelffeocmaaMg
import Derived.Test.YtkbfoelffeocmaaWordsLex
namespace Go.Proofs.Ytkbfoelffeocmaa
open Go.RowKit
set_option linter.unusedSimpArgs false
set_option linter.unusedVariables false

theorem find_spec (t : ByteArray) (c : Nat) : ∀ f i, t.size < i + f → i ≤ findS t c f i ∧ (findS t c f i < t.size → bt t (findS t c f i) = c) ∧ ∀ j, i ≤ j → j < t.size → bt t j = c → findS t c f i ≤ j
  | 0, i, h => ⟨Nat.le_refl _, fun q => by unfold findS at q; omega, fun j h1 _ _ => h1⟩
  | f + 1, i, h => by
    unfold findS
    by_cases e : t.size ≤ i ∨ bt t i = c
    · rw [if_pos e]
      exact ⟨Nat.le_refl _, fun q => by rcases e with e | e; omega; exact e, fun j h1 _ _ => h1⟩
    · rw [if_neg e]
      obtain ⟨h1, h2, h3⟩ := find_spec t c f (i + 1) (by omega)
      exact ⟨by omega, h2, fun j h4 h5 h6 => h3 j (by by_cases q : j = i; subst q; exact absurd (Or.inr h6) e; omega) h5 h6⟩
theorem words_left (s : ByteArray) : ∀ f i q, i ≤ q → q < s.size → blankS (bt s q) = false → s.size < i + f → (wordsFrom s f i).1 ≠ [] ∨ 0 ≤ (wordsFrom s f i).2
  | 0, i, q, h1, h2, _, h4 => by omega
  | f + 1, i, q, h1, h2, h3, h4 => by
    unfold wordsFrom
    rw [if_neg (by omega)]
    by_cases hb : blankS (bt s i) = true
    · rw [if_pos hb]
      exact words_left s f (i + 1) q (by by_cases e : i = q; subst e; rw [h3] at hb; cases hb; omega) h2 h3 (by omega)
    · rw [if_neg hb]
      by_cases h0 : (wordS s i).2 = 0
      · rw [if_pos h0]; exact Or.inr (by dsimp only; omega)
      · rw [if_neg h0]; exact Or.inl (by dsimp only; exact List.cons_ne_nil _ _)
theorem wordsS_one {s : ByteArray} {x : Wd × Nat} (h : (wordsS s).1 = [x]) : ¬ 0 ≤ (wordsFrom s (s.size + 1) 0).2 ∧ (wordsFrom s (s.size + 1) 0).1 = [x] := by
  unfold wordsS at h
  split at h
  · cases h
  · split at h
    · cases h
    · rename_i h1; exact ⟨h1, h⟩
theorem name_not {u : ByteArray} (hn : namedS u = false) : ¬ ∃ x, (wordsS (t1 u)).1 = [x] ∧ x.1.kind = 11 := by
  rintro ⟨x, hx, hk⟩
  obtain ⟨hx2, hx1⟩ := wordsS_one hx
  have hs : (t1 u).size = u.size + 2 := by unfold t1; rw [app_size, app_size, sz1, sz1]; omega
  have h := Holds.self (t1 u)
  conv at h => rhs; rw [t1]
  rw [Holds.app, Holds.app] at h
  obtain ⟨⟨ha, hb⟩, hc⟩ := h
  rw [app_size, sz1] at hc
  rw [sz1] at hb
  have a := ha.one
  have c := hc.one
  have c2 : bt (t1 u) (u.size + 1) = 125 := by have := c.2; rw [show 0 + (1 + u.size) = u.size + 1 by omega] at this; exact this
  have a2 : bt (t1 u) 0 = 123 := a.2
  obtain ⟨f1, f2, f3⟩ := find_spec (t1 u) 125 ((t1 u).size + 1) 1 (by omega)
  have f4 := f3 (u.size + 1) (by omega) (by omega) c2
  have hw : wordS (t1 u) 0 = bracesAt (t1 u) 0 (findS (t1 u) 125 ((t1 u).size + 1) 1) := by
    unfold wordS
    rw [if_neg (by omega), if_neg (by omega), if_pos a2]
    rfl
  generalize findS (t1 u) 125 ((t1 u).size + 1) 1 = e at f1 f2 f3 f4 hw
  have hbl : blankS (bt (t1 u) 0) = false := blank_no (by rw [a2]; decide)
  have hbq : blankS (bt (t1 u) (u.size + 1)) = false := blank_no (by rw [c2]; decide)
  cases hne : namedS ((t1 u).extract (0 + 1) e) with
  | true =>
    rw [braces_name (by omega) rfl hne] at hw
    have hlt : e < u.size + 1 := by
      rcases Nat.lt_or_ge e (u.size + 1) with q | q
      · exact q
      · have e1 : e = 0 + 1 + u.size := by omega
        rw [e1, hb.sub, hn] at hne; cases hne
    have h1 := words_one (f := (t1 u).size) (n := e + 1) (by omega) hbl (hw.trans (by congr 1)) (by omega)
    rw [h1] at hx1 hx2
    rcases words_left (t1 u) (t1 u).size (0 + (e + 1)) (u.size + 1) (by omega) (by omega) hbq (by omega) with q | q
    · have h2 := congrArg List.tail hx1
      exact q h2
    · exact hx2 q
  | false =>
    cases hbd : boundsS ((t1 u).extract (0 + 1) e) with
    | none =>
      rw [braces_no (by omega) rfl hne hbd] at hw
      rw [words_bad (by omega) hbl hw] at hx1
      cases hx1
    | some ab =>
      obtain ⟨p, q⟩ := ab
      rw [braces_yes (by omega) rfl hne hbd] at hw
      have h1 := words_one (f := (t1 u).size) (n := e + 1) (by omega) hbl (hw.trans (by congr 1)) (by omega)
      rw [h1] at hx1
      have h2 := List.head_eq_of_cons_eq hx1
      rw [← h2] at hk
      exact absurd hk (by show ¬ (10 : Int) = 11; decide)

set_option maxRecDepth 100000 in
set_option maxHeartbeats 4000000 in
theorem mIsName (u : ByteArray) (hs : u.size ≤ 20000) (w : World) :
    Calls Try.prog 12 #[.string u] w fun e w' => e = .returned (.bool (namedS u)) ∧ Below w.heap.size w w' := by
  by_cases h20 : u.size ≤ 20
  · have hgt : ¬ (20 : Int) < (u.size : Int) := by omega
    have hsz : (t1 u).size ≤ 20000 := by unfold t1; rw [app_size, app_size, sz1, sz1]; omega
    go_enter Try.func12, Try.ntmps12
    go_wp2_with fail
    have hp := lexWords (t1 u) hsz w
    unfold t1 at hp
    refine hp.mono ?_
    rintro e w2 ⟨v, l, p, q, hwd, rfl, hwds, hb2⟩
    have hwd' : wordsS (t1 u) = (l, p, q) := hwd
    have HWD := Lib.hid hwd'
    have HB2 := Lib.hid hb2
    have HWS := Lib.hid hwds
    obtain ⟨A, cap, rfl⟩ := hwds.len
    clear hwd hwd' hb2 hp hwds hgt
    by_cases hl : l.length = 1
    · have hlz : (l.length : Int) = 1 := by omega
      obtain ⟨x, rfl⟩ : ∃ x, l = [x] := by
        match l, hl with
        | [x], _ => exact ⟨x, rfl⟩
      have hin := wds_in HWS.out (fun b hb => (World.ownsRow.lt HWS.out b hb).2)
      obtain ⟨A', cap', e1, _, h3⟩ := hin
      injection e1 with e1 _ e3
      subst e1
      subst e3
      obtain ⟨b, off, rfl, hb, hr⟩ := h3 (by simp)
      have hr0 := hr 0 (by simp)
      rw [Nat.zero_mul, Nat.add_zero] at hr0
      have hc0 : w2.cell? ⟨b, off, none⟩ = some (.int .i64 x.1.kind) := hr0 0 _ rfl
      have HR : Hid ((x.1.kind == 11) = namedS u) := Lib.hid (by
        cases hn : namedS u with
        | true =>
          have := words_t1 u hn
          rw [HWD.out] at this
          injection this with this _
          injection this with this _
          rw [this]; rfl
        | false =>
          cases hk : (x.1.kind == 11) with
          | false => rfl
          | true => exact absurd ⟨x, by rw [HWD.out], by simpa using hk⟩ (name_not hn))
      clear hr hr0 h3 hb hl
      go_wp2_with fail
      go_ret
      exact ⟨by rw [← HR.out]; rfl, HB2.out⟩
    · have hlz : ¬ (l.length : Int) = 1 := by omega
      have hlb := (int_ne hlz).1
      have HR : Hid (namedS u = false) := Lib.hid (by
        cases hn : namedS u with
        | false => rfl
        | true =>
          have := words_t1 u hn
          rw [HWD.out] at this
          injection this with this _
          rw [this] at hl; exact absurd rfl hl)
      clear hl hlz
      go_wp2_with fail
      go_ret
      exact ⟨by rw [HR.out]; rfl, HB2.out⟩
  · have hgt : (20 : Int) < (u.size : Int) := by omega
    have HR : Hid (namedS u = false) := Lib.hid (by
      cases hn : namedS u with
      | false => rfl
      | true => have := (named_size hn).2.1; omega)
    go_enter Try.func12, Try.ntmps12
    go_wp2_with fail
    go_ret
    exact ⟨by rw [HR.out]; rfl, Below.refl _ _⟩

/-- No name is longer than this. -/
def ShortM (ms : List (ByteArray × ByteArray)) : Prop := ∀ j, j < ms.length → (atM ms j).1.size ≤ 20000 ∧ (atM ms j).2.size ≤ 20000

set_option maxRecDepth 100000 in
set_option maxHeartbeats 4000000 in
theorem mJudge (ms : List (ByteArray × ByteArray)) (A : Option Addr) (n c : Nat) (w : World) (hm : MacsAt w (.slice A n c) ms) (hc : n ≤ c) (hsh : ShortM ms) :
    Calls Try.prog 8 #[.slice A n c] w fun e w' => e = .returned (.tuple #[.int .i64 (namesF ms ms.length 0).1, .int .i64 (namesF ms ms.length 0).2]) ∧ Below w.heap.size w w' := by
  obtain rfl := hm.len
  have hn := hm.choose_spec.choose_spec.2.1
  have HM := Lib.hid hm
  have HSH := Lib.hid hsh
  obtain ⟨R, hR⟩ : ∃ R, namesF ms ms.length 0 = R := ⟨_, rfl⟩
  have HR := Lib.hid hR
  rw [hR]
  clear hm hR hsh
  go_enter Try.func8, Try.ntmps8
  go_wp2_with fail
  go_loopw [8] (fun i wr => ∃ (j : Nat), j ≤ ms.length ∧ i = .int .i64 j ∧ Hid (namesF ms (ms.length - j) j = R) ∧ Hid (Below w.heap.size w wr)) (fun i _ => ms.length - (intOf i).toNat)
  case atStart => exact ⟨0, Nat.zero_le _, rfl, HR, Lib.hid (Below.refl _ _)⟩
  case round =>
    obtain ⟨j, hj, rfl, HJ, HB⟩ := hrel
    by_cases hjl : j < ms.length
    · have hjz : (0 : Int) ≤ (j : Int) := by omega
      have hjn : (j : Int) < (ms.length : Int) := by omega
      have hjc : (j : Int) ≤ (c : Int) := by omega
      obtain ⟨A', cap, e1, _, h3⟩ := (HM.out.next HB.out)
      injection e1 with e1 _ e3
      subst e1
      subst e3
      obtain ⟨b, off, rfl, hb, hr⟩ := h3 (by omega)
      have HRj := Lib.hid (hr j hjl)
      have HS1 := Lib.hid (HSH.out j hjl).1
      have HD : Hid ((if namedS (atM ms j).1 = false then ((j : Int), 2) else if 0 ≤ findM (ms.take j) (atM ms j).1 0 then ((j : Int), 6) else namesF ms (ms.length - (j + 1)) (j + 1)) = R) := Lib.hid (by
        have := HJ.out
        rw [show ms.length - j = (ms.length - (j + 1)) + 1 by omega] at this
        exact this)
      generalize atM ms j = m at HRj HD HS1
      clear hr h3 hb
      have hbx := boxM_next wr m
      have HBx := Lib.hid (boxM_at wr m)
      have HB1 := Lib.hid (HB.out.trans (hbx.mono HB.out.size))
      have hone := macCs_one m
      have cn := HBx.out.cell 0
      rw [show (macCs m).toArray[0]? = some (.string m.1) from rfl] at cn
      clear hbx
      go_wp2_with (first
        | (refine wpList_load_mid rfl 40 _ rfl b (off + j * 2) rfl (macCs m) _ HRj.out Try.underlying40 rfl (by kernel_rfl) ?_)
        | (with_reducible show wpList _ _ _ ({ dst := none, op := .store _ _ _, type := _, pos := _, after := _, guard := _ } :: _) _ _
           refine wpList_store_row rfl 40 _ _ rfl wr.heap.size (macCs m).toArray rfl rfl 40 #[.string { data := #[] }, .string { data := #[] }] (At.new _ _ _) (by kernel_rfl) rfl hone ?_
           change Exit.then _ _ _ _ (boxM wr m))
        | fail)
      refine (mIsName m.1 HS1.out (boxM wr m)).mono ?_
      rintro e w2 ⟨rfl, hb2⟩
      have HB2 := Lib.hid (HB1.out.trans (hb2.mono HB1.out.size))
      have HA2 := Lib.hid (At.below HBx.out hb2 HBx.out.lt)
      clear hb2 cn
      cases hnm : namedS m.1 with
      | false =>
        have HE : Hid (R = ((j : Int), 2)) := Lib.hid (by rw [← HD.out, if_pos hnm])
        clear hnm
        go_wp2_with fail
        exact bodyPost_ret (v := .tuple #[.int .i64 j, .int .i64 2]) (by simp [results, Try.results8, go_sem]) rfl ⟨by rw [HE.out], HB2.out⟩
      | true =>
        have HD2 : Hid ((if 0 ≤ findM (ms.take j) m.1 0 then ((j : Int), 6) else namesF ms (ms.length - (j + 1)) (j + 1)) = R) := Lib.hid (by have := HD.out; rw [if_neg (by rw [hnm]; decide)] at this; exact this)
        have c2 := HA2.out.cell 0
        rw [show (macCs m).toArray[0]? = some (.string m.1) from rfl] at c2
        have f2 := HA2.out.free 0
        have HT2 : Hid (MacsAt w2 (.slice (some ⟨b, off, none⟩) j c) (ms.take j)) := Lib.hid ((HM.out.next HB2.out).take j c (by omega) (by omega))
        obtain ⟨r, hr⟩ : ∃ r, findM (ms.take j) m.1 0 = r := ⟨_, rfl⟩
        have hcall : ∀ W, W.heap = w2.heap → Calls Try.prog 13 #[.slice (some ⟨b, off, none⟩) j c, .string m.1] W fun e w' => e = .returned (.int .i64 r) ∧ Below W.heap.size W w' := fun W hW => by
          rw [← hr]
          exact mFind m.1 (ms.take j) _ j c W (HT2.out.same hW)
        have HCall := Lib.hid hcall
        rw [hr] at HD2
        have HBd := Lib.hid (Below.drew HB2.out)
        have hws := HBd.out.size
        clear hnm hr hcall
        by_cases h0 : (0 : Int) ≤ r
        · have HE : Hid (R = ((j : Int), 6)) := Lib.hid (by rw [← HD2.out, if_pos h0])
          go_wp2_with fail
          go_region_with (first
            | (go_at_call 13; (with_reducible refine (HCall.out _ ?_).mono ?_); exact rfl; rintro e w3 ⟨rfl, hb3⟩; have HB3 := Lib.hid (HBd.out.trans (hb3.mono hws))))
          all_goals go_wp2_with fail
          all_goals exact bodyPost_ret (v := .tuple #[.int .i64 j, .int .i64 6]) (by simp [results, Try.results8, go_sem]) rfl ⟨by rw [HE.out], HB3.out⟩
        · have HD3 : Hid (namesF ms (ms.length - (j + 1)) (j + 1) = R) := Lib.hid (by rw [← HD2.out, if_neg h0])
          have hd0 : decide ((0 : Int) ≤ r) = false := decide_eq_false h0
          go_wp2_with fail
          go_region_with (first
            | (go_at_call 13; (with_reducible refine (HCall.out _ ?_).mono ?_); exact rfl; rintro e w3 ⟨rfl, hb3⟩; have HB3 := Lib.hid (HBd.out.trans (hb3.mono hws))))
          all_goals go_wp2_with fail
          all_goals exact ⟨⟨j + 1, by omega, by go_num, HD3, HB3⟩, by simp [intOf]; omega⟩
    · obtain rfl : j = ms.length := by omega
      go_wp2_with fail
      exact bodyPost_ret (v := .tuple #[.int .i64 0, .int .i64 0]) (by simp [results, Try.results8, go_sem]) rfl ⟨by rw [← HJ.out, Nat.sub_self]; rfl, HB.out⟩

end Go.Proofs.Ytkbfoelffeocmaa
