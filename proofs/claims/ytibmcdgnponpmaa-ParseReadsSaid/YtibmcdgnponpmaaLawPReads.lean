/- bolterlaw05.ParseReads: the law's walk. -/
import Derived.Test.YtibmcdgnponpmaaMf
import Derived.Test.YtibmcdgnponpmaaAwake5
import Derived.Test.YtibmcdgnponpmaaMa
import Derived.Test.YtibmcdgnponpmaaRefPlain
import Derived.Test.YtibmcdgnponpmaaRefText
import Derived.Test.YtibmcdgnponpmaaRefSame
namespace Go.Proofs.Ytibmcdgnponpmaa
open Go.RowKit
set_option linter.unusedSimpArgs false
set_option linter.unusedVariables false

theorem err_bounds {s : ByteArray} {p q : Int} (hs : s.size ≤ 2000) (h : PErr s [] p q) (hq : q ≠ 0) : 0 ≤ p ∧ p ≤ s.size ∧ (q = 2 ∨ q = 5 ∨ q = 8 ∨ q = 9) := by
  have hw := words_at s
  have hf := (pS_fl s []).2
  rcases h with ⟨h1, h2, h3⟩ | ⟨h1, h2, h3, h4⟩ | ⟨h1, h2, h3, h4, h5⟩
  · omega
  · rcases hf with hf | ⟨hf, h5, h6⟩
    · exact absurd hf h2
    · omega
  · omega
/-- What is read is plain and formed: it is written, and read back. -/
structure Back (s : ByteArray) (w : World) (t : Tr) : Prop where
  isF : isFormed 40 t = true
  rd : Rd 41 (t.strip 40)
  plain : plainS 40 t = t.strip 40
  slim : slimS 40 t
theorem lv_deep : ∀ (k m : Nat) (t : Tr), Tr.Lv k t → deepS k m t ≤ m → Tr.Lv m t
  | 0, _, _, h, _ => h.elim
  | k + 1, m, t, h, hd => by
    have h1 : 1 ≤ m := by
      have h' : (if (m : Int) < 1 then (1 : Int) else 1 + maxl (t.parts.map (deepS k ((m : Int) - 1)))) ≤ m := hd
      split at h' <;> omega
    obtain ⟨n, rfl⟩ : ∃ n, m = n + 1 := ⟨m - 1, by omega⟩
    intro p hp
    obtain ⟨j, hj, rfl⟩ := List.getElem_of_mem hp
    have := (deep_part hd hj).2
    refine lv_deep k n _ (h _ hp) ?_
    rw [show ((n + 1 : Nat) : Int) - 1 = (n : Int) by omega] at this
    exact this
theorem back_of {s : ByteArray} {w : World} {t : Tr} (hf : (pS s []).2.flt = 0) (hF : FormedT (pS s []).1) (hin : Tr.In w 40 t) (hst : t.strip 40 = (pS s []).1.strip 40) : Back s w t := by
  obtain ⟨m, hm, hmF⟩ := hF
  have hF' : isFormed 40 t = true := by
    have e1 : isFormed 40 t = isFormed 40 (pS s []).1 := isFormed_strip hst
    have hd : deepS m 40 (pS s []).1 ≤ 40 := isFormed_deep hmF
    have hl : Tr.Lv 40 (pS s []).1 := by
      exact lv_deep m 40 _ hm hd
    rw [e1]
    exact FormedT.at ⟨m, hm, hmF⟩ hl
  have hp : plainN 40 t := plainN_back 40 t (by rw [hst]; exact plainN_strip 40 _ (pS_plain s hf 40))
  have hfs : formedS 40 t = true := by
    have := hF'
    unfold isFormed at this
    rw [Bool.and_eq_true, Bool.and_eq_true] at this
    exact this.2.1
  exact ⟨hF', rd_succ (rd_of 40 t hin hfs hp), plain_self 40 t hp, isFormed_slim hin.lv hF'⟩

theorem strip_levels : ∀ (k : Nat) (t : Tr), Tr.Lv k t → Tr.Lv k (t.strip k)
  | 0, _, h => h.elim
  | k + 1, t, h => fun p hp => by
    have hp' : p ∈ t.parts.map (Tr.strip k) := hp
    obtain ⟨q, hq, rfl⟩ := List.mem_map.1 hp'
    exact strip_levels k q (h q hq)

set_option maxRecDepth 100000 in
set_option maxHeartbeats 8000000 in
theorem lawPReads (s : ByteArray) (w : World) : Calls Try.prog 3 #[.string s] w fun e w' => e = .returned (.bool true) ∧ Below w.heap.size w w' := by
  have HA := Lib.hid (lawAwake5)
  by_cases hbig : 2000 < s.size
  · have d0 : decide ((2000 : Int) < (s.size : Int)) = true := decide_eq_true (by omega)
    go_enter Try.func3, Try.ntmps3
    go_wp2_with fail
    refine (HA.out _).mono ?_
    rintro e w1 ⟨rfl, hb1⟩
    have HB1 := Lib.hid hb1
    clear hb1
    go_wp2_with fail
    refine (HA.out _).mono ?_
    rintro e w2 ⟨rfl, hb2⟩
    have HB2 := Lib.hid (HB1.out.trans (hb2.mono HB1.out.size))
    clear hb2
    go_wp2_with fail
    go_ret
    exact ⟨rfl, HB2.out⟩
  have d0 : decide ((2000 : Int) < (s.size : Int)) = false := decide_eq_false (by omega)
  have hP := fun W => tParse s (by omega) none 0 0 [] W (defs_nil W) (fun hf k => by have := pS_mass (W := 2) (s := s) (fun d hd => absurd hd List.not_mem_nil) (Nat.le_refl _) hf k; omega)
  have HP := Lib.hid hP
  have HS : Hid (s.size ≤ 2000) := Lib.hid (by omega)
  clear hP hbig
  go_enter Try.func3, Try.ntmps3
  go_wp2_with fail
  refine (HA.out _).mono ?_
  rintro e w1 ⟨rfl, hb1⟩
  have HB1 := Lib.hid hb1
  clear hb1
  go_wp2_with fail
  refine (HP.out _).mono ?_
  rintro e w2 ⟨t, p, q, rfl, hb2, hres⟩
  have HB2 := Lib.hid (HB1.out.trans (hb2.mono HB1.out.size))
  have HX := Lib.hid (boxW_at w2 t)
  have HB3 := Lib.hid (HB2.out.trans ((boxW_next w2 t).mono HB2.out.size))
  have hone := Tr.one t
  clear hb2
  rcases hres with ⟨hq, rfl, herr⟩ | ⟨rfl, rfl, _, hflt, hF, hin, hfr, hst⟩
  · obtain ⟨e1, e2, e3⟩ := err_bounds HS.out herr hq
    have hq1 := (int_ne hq).1
    have hq2 := (int_ne hq).2
    have dp1 : decide ((0 : Int) ≤ p) = true := decide_eq_true e1
    have dp2 : decide (p ≤ (s.size : Int)) = true := decide_eq_true e2
    have c0 := HX.out.cell 0
    have c5 := HX.out.cell 5
    rw [show Tr.blank.cs.toArray[0]? = some (.int .i64 0) from rfl] at c0
    rw [show Tr.blank.cs.toArray[5]? = some (.slice none 0 0) from rfl] at c5
    clear herr hq e1 e2
    rcases e3 with rfl | rfl | rfl | rfl
    all_goals
      go_wp2_with (first
        | (with_reducible show wpList _ _ _ ({ dst := none, op := .store 28 _ _, type := _, pos := _, after := _, guard := _ } :: _) _ _
           refine wpList_store_row rfl 28 _ _ rfl w2.heap.size Tr.blank.cs.toArray rfl rfl 28 Tr.blank.cs.toArray (At.new _ _ _) (by kernel_rfl) rfl hone ?_
           first | change wpList _ _ _ _ _ (boxW w2 Tr.blank) | change Exit.then _ _ _ _ (boxW w2 Tr.blank))
        | fail)
      go_ret
      exact ⟨rfl, HB3.out⟩
  have hbk := back_of (w := w2) hflt hF hin hst
  have HBk := Lib.hid hbk
  have HIN := Lib.hid (hin.next (boxW_next w2 t))
  clear hflt hF hin hfr hst hbk
  have HNew := Lib.hid (boxW_size w2 t)
  go_wp2_with (first
  | (with_reducible show wpList _ _ _ ({ dst := none, op := .store 28 _ _, type := _, pos := _, after := _, guard := _ } :: _) _ _
     refine wpList_store_row rfl 28 _ _ rfl w2.heap.size t.cs.toArray rfl rfl 28 Tr.blank.cs.toArray (At.new _ _ _) (by kernel_rfl) rfl hone ?_
     first | change wpList _ _ _ _ _ (boxW w2 t) | change Exit.then _ _ _ _ (boxW w2 t))
  | (with_reducible show wpList _ _ _ ({ dst := _, op := .load 28 _, type := _, pos := _, after := _, guard := _ } :: _) _ _
     refine wpList_load_row rfl 28 _ rfl w2.heap.size rfl 28 t.cs.toArray (0, 0) _ HX.out Try.underlying28 rfl (by kernel_rfl) ?_)
  | fail)
  have HFr := refFormed 40 t (boxW w2 t) HIN.out
  rw [HBk.out.isF] at HFr
  refine HFr.mono ?_
  rintro e w4 ⟨rfl, hb4⟩
  have HB4 := Lib.hid (HB3.out.trans (hb4.mono HB3.out.size))
  have HX4 := Lib.hid (At.below HX.out hb4 HX.out.lt)
  have HIN4 := Lib.hid (HIN.out.next hb4)
  clear hb4 HFr
  go_wp2_with (first
  | (with_reducible show wpList _ _ _ ({ dst := _, op := .load 28 _, type := _, pos := _, after := _, guard := _ } :: _) _ _
     refine wpList_load_row rfl 28 _ rfl w2.heap.size rfl 28 t.cs.toArray (0, 0) _ HX4.out Try.underlying28 rfl (by kernel_rfl) ?_)
  | fail)
  refine (refPlain 40 t w4 HIN4.out HBk.out.slim).mono ?_
  rintro e w5 ⟨t2, rfl, hin2, hfr2, hst2, hb5⟩
  have hB5 := HB4.out.trans (hb5.mono HB4.out.size)
  have HB6 := Lib.hid (hB5.trans ((boxW_next w5 t2).mono hB5.size))
  have HX6 := Lib.hid (boxW_at w5 t2)
  have HIN6 := Lib.hid (hin2.next (boxW_next w5 t2))
  have HST := Lib.hid (hst2.trans HBk.out.plain)
  have hone2 := Tr.one t2
  clear hb5 hin2 hfr2 hst2 hB5
  obtain ⟨R, hR⟩ : ∃ R, t.strip 40 = R := ⟨_, rfl⟩
  have HR := Lib.hid hR
  have HRd : Hid (Rd 41 R) := Lib.hid (by rw [← hR]; exact HBk.out.rd)
  have HST2 : Hid (t2.strip 41 = R) := Lib.hid (by rw [← hR]; exact HST.out)
  clear hR
  have HWr : Hid (wrtS 41 t2) := Lib.hid (wrtS_strip 41 t2 (by rw [HST2.out]; exact rd_wrt HRd.out))
  have HTx : Hid (textS 41 t2 = textS 41 R) := Lib.hid (by rw [← textS_strip 41 t2, HST2.out])
  have HOp : Hid (opensS 41 t2 = opensS 41 R) := Lib.hid (by rw [← opensS_strip 41 t2, HST2.out])
  go_wp2_with (first
  | (with_reducible show wpList _ _ _ ({ dst := none, op := .store 28 _ _, type := _, pos := _, after := _, guard := _ } :: _) _ _
     refine wpList_store_row rfl 28 _ _ rfl w5.heap.size t2.cs.toArray rfl rfl 28 Tr.blank.cs.toArray (At.new _ _ _) (by kernel_rfl) rfl hone2 ?_
     first | change wpList _ _ _ _ _ (boxW w5 t2) | change Exit.then _ _ _ _ (boxW w5 t2))
  | (with_reducible show wpList _ _ _ ({ dst := _, op := .load 28 _, type := _, pos := _, after := _, guard := _ } :: _) _ _
     refine wpList_load_row rfl 28 _ rfl w5.heap.size rfl 28 t2.cs.toArray (0, 0) _ HX6.out Try.underlying28 rfl (by kernel_rfl) ?_)
  | fail)
  refine (refText 41 (by omega) t2 (boxW w5 t2) HIN6.out HWr.out).mono ?_
  rintro e w7 ⟨x, rfl, hx, hxs, hb7⟩
  have HB7 := Lib.hid (HB6.out.trans (hb7.mono HB6.out.size))
  have HX7 := Lib.hid (At.below HX6.out hb7 HX6.out.lt)
  have HIN7 := Lib.hid (HIN6.out.next hb7)
  have HXt : Hid (x.size ≤ 10000 → x = textS 41 R) := Lib.hid (fun q => by
    rcases hx with hx | hx
    · rw [hx, HTx.out]
    · omega)
  clear hb7 hx hone hone2
  by_cases hlong : 10000 < x.size
  · have d1 : decide ((10000 : Int) < (x.size : Int)) = true := decide_eq_true (by omega)
    go_wp2_with fail
    go_ret
    exact ⟨rfl, HB7.out⟩
  have d1 : decide ((10000 : Int) < (x.size : Int)) = false := decide_eq_false (by omega)
  have HXe := Lib.hid (HXt.out (by omega))
  have HXs : Hid (x.size ≤ 10000) := Lib.hid (by omega)
  clear hlong
  go_wp2_with (first
  | (with_reducible show wpList _ _ _ ({ dst := _, op := .load 28 _, type := _, pos := _, after := _, guard := _ } :: _) _ _
     refine wpList_load_row_want (by kernel_rfl) 28 _ rfl w5.heap.size rfl 28 t2.cs.toArray (0, 0) _ HX7.out Try.underlying28 rfl (by kernel_rfl) ?_)
  | fail)
  refine (refOpen 41 t2 w7 (by omega) HIN7.out).mono ?_
  rintro e w8 ⟨rfl, hb8⟩
  rw [HOp.out]
  have HB8 := Lib.hid (HB7.out.trans (hb8.mono HB7.out.size))
  have HX8 := Lib.hid (At.below HX7.out hb8 HX7.out.lt)
  have HIN8 := Lib.hid (HIN7.out.next hb8)
  clear hb8
  obtain ⟨o, ho⟩ : ∃ o, opensS 41 R = o := ⟨_, rfl⟩
  rw [ho]
  have HO := Lib.hid ho
  clear ho
  by_cases hmany : 40 < o
  · have d2 : decide ((40 : Int) < o) = true := decide_eq_true (by omega)
    go_wp2_with fail
    go_ret
    exact ⟨rfl, HB8.out⟩
  have d2 : decide ((40 : Int) < o) = false := decide_eq_false (by omega)
  have HRead : Hid (pS x [] = (R, ⟨[], 0, 0, 0⟩)) := Lib.hid (by
    rw [HXe.out]
    exact read_text HRd.out (by rw [← HXe.out]; exact HXs.out) (by have := HO.out; omega))
  have HWords : Hid ((wordsS x).2.2 = 0) := Lib.hid (by rw [HXe.out, words_text HRd.out (by rw [← HXe.out]; exact HXs.out)])
  have HFT : Hid (FormedT R) := Lib.hid (by
    have h1 := HBk.out.isF
    rw [isFormed_strip (a := t) (b := R) (by rw [← HR.out, strip_strip])] at h1
    exact ⟨40, by rw [← HR.out]; exact strip_levels 40 t HIN4.out.lv, h1⟩)
  have hP2 := fun W => tParse x (by have := HXs.out; omega) none 0 0 [] W (defs_nil W) (fun hf k => by have := pS_mass (W := 2) (s := x) (fun d hd => absurd hd List.not_mem_nil) (Nat.le_refl _) hf k; have := HXs.out; omega)
  have HP2 := Lib.hid hP2
  clear hP2 hmany
  go_wp2_with fail
  refine (HP2.out _).mono ?_
  rintro e w9 hpp
  obtain ⟨t3, rfl, hb9, hin3, hfr3, hst3⟩ := hpp.good HWords.out (by rw [HRead.out]) (by rw [HRead.out]) HFT.out
  have hB9 := HB8.out.trans (hb9.mono HB8.out.size)
  have HB10 := Lib.hid (hB9.trans ((boxW_next w9 t3).mono hB9.size))
  have HX10 := Lib.hid (At.below (At.below HX8.out hb9 HX8.out.lt) (boxW_next w9 t3) (Nat.lt_of_lt_of_le HX8.out.lt hb9.size))
  have HIN10 := Lib.hid ((HIN8.out.next hb9).next (boxW_next w9 t3))
  have HX3 := Lib.hid (boxW_at w9 t3)
  have HIN3 := Lib.hid (hin3.next (boxW_next w9 t3))
  have HSame : Hid (sameS 41 41 t3 t2 = true) := Lib.hid (by
    have e3 : t3.strip 41 = R := by rw [strip_succ hin3, hst3]; rw [← HR.out, strip_strip]
    have hd : deepS 41 40 t3 ≤ 40 := by
      rw [deepS_lv 40 40 t3 hin3.lv, deepS_congr 40 40 t3 t (by rw [hst3, ← HR.out, strip_strip])]
      exact isFormed_deep HBk.out.isF
    exact sameS_strip 41 40 t3 t2 (by omega) (by rw [e3, HST2.out]) (by omega) hd _ (hin3.up'))
  have hone3 := Tr.one t3
  clear hb9 hin3 hfr3 hst3 hB9 hpp
  go_wp2_with (first
  | (with_reducible show wpList _ _ _ ({ dst := none, op := .store 28 _ _, type := _, pos := _, after := _, guard := _ } :: _) _ _
     refine wpList_store_row rfl 28 _ _ rfl w9.heap.size t3.cs.toArray rfl rfl 28 Tr.blank.cs.toArray (At.new _ _ _) (by kernel_rfl) rfl hone3 ?_
     first | change wpList _ _ _ _ _ (boxW w9 t3) | change Exit.then _ _ _ _ (boxW w9 t3))
  | (with_reducible show wpList _ _ _ ({ dst := _, op := .load 28 _, type := _, pos := _, after := _, guard := _ } :: _) _ _
     first
     | refine wpList_load_row_want (by kernel_rfl) 28 _ rfl w9.heap.size rfl 28 t3.cs.toArray (0, 0) _ HX3.out Try.underlying28 rfl (by kernel_rfl) ?_
     | refine wpList_load_row_want (by kernel_rfl) 28 _ rfl w5.heap.size rfl 28 t2.cs.toArray (0, 0) _ HX10.out Try.underlying28 rfl (by kernel_rfl) ?_)
  | fail)
  refine (refSame 41 41 t3 t2 (boxW w9 t3) (by omega) (by omega) HIN3.out.up' HIN10.out).mono ?_
  rintro e w11 ⟨rfl, hb11⟩
  rw [HSame.out]
  have HB11 := Lib.hid (HB10.out.trans (hb11.mono HB10.out.size))
  clear hb11
  go_wp2_with fail
  go_ret
  exact ⟨rfl, HB11.out⟩

end Go.Proofs.Ytibmcdgnponpmaa
