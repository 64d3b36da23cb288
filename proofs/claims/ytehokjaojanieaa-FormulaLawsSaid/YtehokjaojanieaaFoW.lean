/- package formula: Dual. -/
import Derived.Test.YtehokjaojanieaaFoU
import Derived.Test.YtehokjaojanieaaFoV
namespace Go.Proofs.Ytehokjaojanieaa
open Go.RowKit
set_option linter.unusedVariables false
set_option linter.unusedSimpArgs false

set_option maxRecDepth 100000 in
set_option maxHeartbeats 4000000 in
theorem fDual1 (l : List Int) (A : Option Addr) (n c : Nat) (w : World) (h : IntsAt w (.slice A n c) l) : Calls Try.prog 30 #[.slice A n c] w fun e w' => e = .returned (.bool (!decide (l.length = 1))) ∧ Below w.heap.size w w' := by
  have hm := h.max
  obtain rfl := h.len
  clear h
  go_enter Try.func30, Try.ntmps30
  go_wp2_with fail
  go_ret
  refine ⟨?_, Below.refl _ _⟩
  by_cases h1 : l.length = 1
  · simp [h1]
  · have h2 : ¬ ((l.length : Int) = 1) := by omega
    simp [h1, h2]
theorem FmAt.take {w : World} {A : Option Addr} {n c : Nat} {f : Fm} (h : FmAt w (.slice A n c) f) (k : Nat) (hk : k ≤ f.length) : FmAt w (.slice A k c) (f.take k) := by
  obtain ⟨A', c', e, h2, h3, h5⟩ := h
  injection e with e1 _ e3
  subst e1 e3
  have hl : (f.take k).length = k := by rw [List.length_take]; omega
  refine ⟨A, c, by rw [hl], by omega, h3, fun h0 => ?_⟩
  rw [hl] at h0
  obtain ⟨b, off, e, hb, r⟩ := h5 (by omega)
  refine ⟨b, off, e, hb, fun j hj => ?_⟩
  rw [hl] at hj
  obtain ⟨u, hu, hi⟩ := r j (by omega)
  refine ⟨u, hu, ?_⟩
  rw [show paAt (f.take k) j = paAt f j by unfold paAt; rw [List.getElem?_take_of_lt hj]]
  exact hi
theorem FmAt.drop {w : World} {b off n c : Nat} {f : Fm} (h : FmAt w (.slice (some ⟨b, off, none⟩) n c) f) (k : Nat) (hk : k ≤ n) : FmAt w (.slice (if c = k then some ⟨b, off, none⟩ else some ⟨b, off + k, none⟩) (n - k) (c - k)) (f.drop k) := by
  obtain rfl := h.len
  obtain ⟨A', c', e, h2, h3, h5⟩ := h
  injection e with e1 _ e3
  subst e1 e3
  have hl : (f.drop k).length = f.length - k := List.length_drop
  refine ⟨_, c - k, by rw [hl], by omega, by omega, fun h0 => ?_⟩
  rw [hl] at h0
  obtain ⟨b', off', e, hb, r⟩ := h5 (by omega)
  injection e with e
  injection e with e1 e2
  subst e1 e2
  rw [if_neg (by omega)]
  refine ⟨b, off + k, rfl, hb, fun j hj => ?_⟩
  rw [hl] at hj
  obtain ⟨u, hu, hi⟩ := r (k + j) (by omega)
  rw [← Nat.add_assoc] at hu
  refine ⟨u, hu, ?_⟩
  rw [show paAt (f.drop k) j = paAt f (k + j) by unfold paAt; rw [List.getElem?_drop]]
  exact hi
theorem one_row {w : World} {v : Value} {m : Nat} {l : List Int} (h : PtOk w (fun _ => False) ⟨v, m, l⟩) : PsAt (w.alloc (.cells #[v, .int .u64 m] 50)) (.slice (some ⟨w.heap.size, 0, none⟩) 1 1) [⟨v, m, l⟩] := by
  have hb : Below w.heap.size w (w.alloc (.cells #[v, .int .u64 m] 50)) := (Below.refl _ _).alloc (Nat.le_refl _) _
  refine ⟨⟨_, 1, rfl, Nat.le_refl _, by omega, fun _ => ⟨w.heap.size, 1, rfl, Nat.le_refl _, _, At.new _ _ _, rfl, fun j x hx => ?_⟩⟩, fun x hx => by rw [List.mem_singleton.1 hx]; exact h.below hb⟩
  dsimp only at hx
  match j, hx with
  | 0, hx => injection hx with hx; subst hx; exact ⟨by omega, rfl, rfl⟩
  | j + 1, hx => simp at hx

set_option maxRecDepth 100000 in
set_option maxHeartbeats 8000000 in
/-- Behind the parts of one number each: the rest of them, one by one. -/
theorem fDual {w : World} {A : Option Addr} {n c : Nat} {f : Fm} (hf : FmAt w (.slice A n c) f) (hs : Small f []) :
    Calls Try.prog 11 #[.slice A n c] w fun e w' => Answer w e w' (fun x er => (fmS f = true → er = 0 ∧ x = opS 2 f []) ∧ (¬ fmS f = true → er = 1 ∧ x = [])) := by
  have HF := Lib.hid hf
  have hS := Lib.hid hs
  have hm := hf.max
  have hcc : f.length ≤ c ∧ c ≤ 9223372036854775807 := by
    obtain ⟨_, _, e, r1, r2, _⟩ := hf
    injection e with _ _ e3
    subst e3
    exact ⟨r1, r2⟩
  obtain ⟨hc1, hc2⟩ := hcc
  have h1 := fFormed hf (by have := hs.1; simp at this ⊢; omega)
  obtain rfl := hf.len
  obtain ⟨a, ha⟩ : ∃ a, fmS f = a := ⟨_, rfl⟩
  rw [ha] at h1
  have H1 := Lib.hid h1
  have HA := Lib.hid ha
  have hflat : Hid (f.flatten.length ≤ 100000) := Lib.hid (by have := hs.1; simp at this ⊢; omega)
  clear hf hs h1 ha
  go_enter Try.func11, Try.ntmps11
  cases a
  · go_wp2_with fail
    refine H1.out.mono ?_
    rintro e w1 ⟨rfl, hb1⟩
    have HB1 := Lib.hid hb1
    clear hb1
    go_wp2_with fail
    exact bodyPost_ret (v := .tuple #[.slice none 0 0, .int .i64 1]) (by simp [results, Try.results11, go_sem]) rfl ⟨none, 0, [], 1, rfl, nil_fm _, ⟨(fun h => by rw [HA.out] at h; cases h), fun _ => ⟨rfl, rfl⟩⟩, HB1.out⟩
  · have HFm := Lib.hid (fm_of HA.out)
    go_wp2_with fail
    refine H1.out.mono ?_
    rintro e w1 ⟨rfl, hb1⟩
    have HB1 := Lib.hid hb1
    clear hb1
    go_wp2_with fail
    refine (fIndexD f (fun l => !decide (l.length = 1)) A _ c w1 (HF.out.next HB1.out) (fun w' hb l A2 n2 c2 hl hm => fDual1 l A2 n2 c2 w' hl)).mono ?_
    rintro e w2 ⟨r, rfl, hr, hb2⟩
    have HB2 := Lib.hid (HB1.out.trans (hb2.mono HB1.out.size))
    have hfl := Lib.hid (fm_le HFm.out hflat.out)
    clear hb2
    rcases hr with ⟨rfl, hall⟩ | ⟨k, hk, rfl, _, hall⟩
    · have zk0 : (-1 : Int) < 0 := by decide
      cases A with
      | none =>
        have hK : f.length ≤ f.length := Nat.le_refl _
        have HOnes : Hid (∀ p ∈ f.take f.length, p.length = 1) := Lib.hid (fun p hp => by have := hall p (List.mem_of_mem_take hp); simpa using this)
        clear hall
        have zk1 : (f.length : Int) ≤ (f.length : Int) := by omega
        have zk2 : (f.length : Int) ≤ (c : Int) := by omega
        have zk3 : (0 : Int) ≤ (f.length : Int) := by omega
        have hft := (HF.out.next HB2.out).take f.length hK
        have hfs : (f.take f.length).flatten.length ≤ 100000 := by
          have h5 : (f.take f.length).flatten.length + (f.drop f.length).flatten.length = f.flatten.length := by rw [← List.length_append, ← List.flatten_append, List.take_append_drop]
          have := hflat.out
          omega
        have hC := fConcatI _ none f.length c w2 hft.srcs (by rw [fm_sum]; omega)
        rw [fm_sum, fm_cat] at hC
        have HC := Lib.hid hC
        have HUp := Lib.hid (ones_up (List.Pairwise.sublist (List.take_sublist f.length f) HFm.out.sorted) HOnes.out)
        have HN0 : Hid (∀ x ∈ (f.take f.length).flatten, 0 ≤ x ∧ x ≤ 9223372036854775807) := Lib.hid (fun x hx => by
          obtain ⟨p, hp, hx⟩ := List.mem_flatten.1 hx
          have hpf := List.mem_of_mem_take hp
          obtain ⟨j, hj, rfl⟩ := List.mem_iff_getElem.1 hpf
          obtain ⟨_, _, _, _, _, _, _, hi⟩ := HF.out.at j hj
          obtain ⟨_, _, _, _, _, h4, _⟩ := hi
          rw [paAt_lt hj] at h4
          exact ⟨(HFm.out.up _ hpf).2 x hx, (h4 x hx).2⟩)
        have HHold : Hid (∀ on, holdsS [(f.take f.length).flatten] on = dualH (f.take f.length) on) := Lib.hid (fun on => ones_holds HOnes.out on)
        have HFsl := Lib.hid hfs
        clear hC hft hfs

        go_wp2_with fail
        try go_wp2_with fail
        refine HC.out.mono ?_
        rintro e w3 ⟨v3, rfl, o1, o2⟩
        have HB3 := Lib.hid (HB2.out.trans (o2.mono HB2.out.size))
        obtain ⟨F, hF⟩ : ∃ F, (f.take f.length).flatten = F := ⟨_, rfl⟩
        rw [hF] at o1 HUp HN0 HHold HFsl
        obtain ⟨A3, c3, rfl, i3, _⟩ := own_ints o1 (fun x hx => by have := HN0.out x hx; unfold IsI; omega)
        have I3 := Lib.hid i3
        have hFi : Hid (∀ x ∈ F, x ∈ atomsS [f, []]) := Lib.hid (fun x hx => by
          rw [← hF] at hx
          obtain ⟨p, hp, hx⟩ := List.mem_flatten.1 hx
          exact atoms_mem.2 ⟨f, by simp, p, List.mem_of_mem_take hp, hx⟩)
        clear o1 o2 i3 hF
        go_wp2_with fail
        refine (fPartOf F A3 _ c3 w3 I3.out (fun x hx => (HN0.out x hx).1)).mono ?_
        rintro e w4 ⟨m, rfl, hmk, hb4⟩
        have HM := Lib.hid hmk
        have HB4 := Lib.hid (HB3.out.trans (hb4.mono HB3.out.size))
        have hpt : PtOk w4 (fun _ => False) ⟨.slice A3 F.length c3, m, F⟩ := ints_ptok (I3.out.next hb4) (fun _ _ _ _ h => h) HUp.out HN0.out HM.out
        have hps := one_row hpt
        have hb5 : Below w4.heap.size w4 (w4.alloc (.cells #[.slice A3 F.length c3, .int .u64 m] 50)) := (Below.refl _ _).alloc (Nat.le_refl _) _
        have HPs := Lib.hid hps
        have HB5 := Lib.hid (HB4.out.trans (hb5.mono HB4.out.size))
        clear hmk hb4 hpt hps hb5
        go_wp2_with fail
        generalize w4.alloc (.cells #[.slice A3 F.length c3, .int .u64 m] 50) = W5 at HPs HB5 ⊢
        generalize w4.heap.size = s4 at HPs ⊢

        go_loopw [5, 6, 28] (fun s5 s6 v wr => s5 = .slice (some ⟨s4, 0, none⟩) 1 1 ∧ s6 = .bool true ∧ v = .int .i64 0 ∧ W5 = wr) (fun _ _ _ _ => 0)
        case atStart => exact ⟨rfl, rfl, rfl, rfl⟩
        case round =>
          obtain ⟨rfl, rfl, rfl, rfl⟩ := hrel
          obtain ⟨ls, s1, s2, s3, s5⟩ : ∃ ls : List Pt, PsAt W5 (.slice (some ⟨s4, 0, none⟩) 1 1) ls ∧ Fmd (fmOf ls) ∧ InL (atomsS [f, []]) ls ∧ ∀ on, holdsS (fmOf ls) on = dualH f on :=
            ⟨_, HPs.out, one_fmd HUp.out (fun x hx => (HN0.out x hx).1), (fun x hx n hn => by rw [List.mem_singleton.1 hx] at hn; exact hFi.out n hn), fun on => by have := HHold.out on; rw [List.take_length] at this; exact this⟩
          have hll := fm_len (atoms_up [f, []]) hS.out.2 s3 s2
          have hans := fAnswer ls (some ⟨s4, 0, none⟩) 1 1 W5 s1 (by omega) (fun x hx => by have := up_le (atoms_up [f, []]) (s1.2 x hx).2.1.1 (s3 x hx); have := hS.out.2; omega)
          have hEq : fmOf ls = opS 2 f [] := dual_is HFm.out s2 s5
          have HAns := Lib.hid hans
          have HEq := Lib.hid hEq
          clear hans hEq s1 s2 s3 s5 hll
          go_wp2_with fail
          refine HAns.out.mono ?_
          rintro e w8 ⟨b8, rfl, k1, k2⟩
          have K1 := Lib.hid k1
          have HB8 := Lib.hid (HB5.out.trans (k2.mono HB5.out.size))
          clear k1 k2
          go_wp2_with fail
          have hlf : (fmOf ls).length = ls.length := by simp [fmOf]
          refine bodyPost_ret (v := .tuple #[.slice (some ⟨b8, 0, none⟩) ls.length ls.length, .int .i64 0]) (by simp [results, Try.results11, go_sem]) rfl ⟨some ⟨b8, 0, none⟩, ls.length, fmOf ls, 0, by rw [hlf], by rw [hlf]; exact K1.out, ⟨fun _ => ⟨rfl, HEq.out⟩, fun h => absurd HA.out h⟩, HB8.out⟩
      | some aa =>
        obtain ⟨ba, oa, sa⟩ := aa
        by_cases hce : c = f.length
        · subst hce
          have hK : f.length ≤ f.length := Nat.le_refl _
          have HOnes : Hid (∀ p ∈ f.take f.length, p.length = 1) := Lib.hid (fun p hp => by have := hall p (List.mem_of_mem_take hp); simpa using this)
          clear hall
          have zk1 : (f.length : Int) ≤ (f.length : Int) := by omega
          have zk2 : (f.length : Int) ≤ (f.length : Int) := by omega
          have zk3 : (0 : Int) ≤ (f.length : Int) := by omega
          have hft := (HF.out.next HB2.out).take f.length hK
          have hfs : (f.take f.length).flatten.length ≤ 100000 := by
            have h5 : (f.take f.length).flatten.length + (f.drop f.length).flatten.length = f.flatten.length := by rw [← List.length_append, ← List.flatten_append, List.take_append_drop]
            have := hflat.out
            omega
          have hC := fConcatI _ (some ⟨ba, oa, sa⟩) f.length f.length w2 hft.srcs (by rw [fm_sum]; omega)
          rw [fm_sum, fm_cat] at hC
          have HC := Lib.hid hC
          have HUp := Lib.hid (ones_up (List.Pairwise.sublist (List.take_sublist f.length f) HFm.out.sorted) HOnes.out)
          have HN0 : Hid (∀ x ∈ (f.take f.length).flatten, 0 ≤ x ∧ x ≤ 9223372036854775807) := Lib.hid (fun x hx => by
            obtain ⟨p, hp, hx⟩ := List.mem_flatten.1 hx
            have hpf := List.mem_of_mem_take hp
            obtain ⟨j, hj, rfl⟩ := List.mem_iff_getElem.1 hpf
            obtain ⟨_, _, _, _, _, _, _, hi⟩ := HF.out.at j hj
            obtain ⟨_, _, _, _, _, h4, _⟩ := hi
            rw [paAt_lt hj] at h4
            exact ⟨(HFm.out.up _ hpf).2 x hx, (h4 x hx).2⟩)
          have HHold : Hid (∀ on, holdsS [(f.take f.length).flatten] on = dualH (f.take f.length) on) := Lib.hid (fun on => ones_holds HOnes.out on)
          have HFsl := Lib.hid hfs
          clear hC hft hfs

          go_wp2_with fail
          try go_wp2_with fail
          refine HC.out.mono ?_
          rintro e w3 ⟨v3, rfl, o1, o2⟩
          have HB3 := Lib.hid (HB2.out.trans (o2.mono HB2.out.size))
          obtain ⟨F, hF⟩ : ∃ F, (f.take f.length).flatten = F := ⟨_, rfl⟩
          rw [hF] at o1 HUp HN0 HHold HFsl
          obtain ⟨A3, c3, rfl, i3, _⟩ := own_ints o1 (fun x hx => by have := HN0.out x hx; unfold IsI; omega)
          have I3 := Lib.hid i3
          have hFi : Hid (∀ x ∈ F, x ∈ atomsS [f, []]) := Lib.hid (fun x hx => by
            rw [← hF] at hx
            obtain ⟨p, hp, hx⟩ := List.mem_flatten.1 hx
            exact atoms_mem.2 ⟨f, by simp, p, List.mem_of_mem_take hp, hx⟩)
          clear o1 o2 i3 hF
          go_wp2_with fail
          refine (fPartOf F A3 _ c3 w3 I3.out (fun x hx => (HN0.out x hx).1)).mono ?_
          rintro e w4 ⟨m, rfl, hmk, hb4⟩
          have HM := Lib.hid hmk
          have HB4 := Lib.hid (HB3.out.trans (hb4.mono HB3.out.size))
          have hpt : PtOk w4 (fun _ => False) ⟨.slice A3 F.length c3, m, F⟩ := ints_ptok (I3.out.next hb4) (fun _ _ _ _ h => h) HUp.out HN0.out HM.out
          have hps := one_row hpt
          have hb5 : Below w4.heap.size w4 (w4.alloc (.cells #[.slice A3 F.length c3, .int .u64 m] 50)) := (Below.refl _ _).alloc (Nat.le_refl _) _
          have HPs := Lib.hid hps
          have HB5 := Lib.hid (HB4.out.trans (hb5.mono HB4.out.size))
          clear hmk hb4 hpt hps hb5
          go_wp2_with fail
          generalize w4.alloc (.cells #[.slice A3 F.length c3, .int .u64 m] 50) = W5 at HPs HB5 ⊢
          generalize w4.heap.size = s4 at HPs ⊢

          go_loopw [5, 6, 28] (fun s5 s6 v wr => s5 = .slice (some ⟨s4, 0, none⟩) 1 1 ∧ s6 = .bool true ∧ v = .int .i64 0 ∧ W5 = wr) (fun _ _ _ _ => 0)
          case atStart => exact ⟨rfl, rfl, rfl, rfl⟩
          case round =>
            obtain ⟨rfl, rfl, rfl, rfl⟩ := hrel
            obtain ⟨ls, s1, s2, s3, s5⟩ : ∃ ls : List Pt, PsAt W5 (.slice (some ⟨s4, 0, none⟩) 1 1) ls ∧ Fmd (fmOf ls) ∧ InL (atomsS [f, []]) ls ∧ ∀ on, holdsS (fmOf ls) on = dualH f on :=
              ⟨_, HPs.out, one_fmd HUp.out (fun x hx => (HN0.out x hx).1), (fun x hx n hn => by rw [List.mem_singleton.1 hx] at hn; exact hFi.out n hn), fun on => by have := HHold.out on; rw [List.take_length] at this; exact this⟩
            have hll := fm_len (atoms_up [f, []]) hS.out.2 s3 s2
            have hans := fAnswer ls (some ⟨s4, 0, none⟩) 1 1 W5 s1 (by omega) (fun x hx => by have := up_le (atoms_up [f, []]) (s1.2 x hx).2.1.1 (s3 x hx); have := hS.out.2; omega)
            have hEq : fmOf ls = opS 2 f [] := dual_is HFm.out s2 s5
            have HAns := Lib.hid hans
            have HEq := Lib.hid hEq
            clear hans hEq s1 s2 s3 s5 hll
            go_wp2_with fail
            refine HAns.out.mono ?_
            rintro e w8 ⟨b8, rfl, k1, k2⟩
            have K1 := Lib.hid k1
            have HB8 := Lib.hid (HB5.out.trans (k2.mono HB5.out.size))
            clear k1 k2
            go_wp2_with fail
            have hlf : (fmOf ls).length = ls.length := by simp [fmOf]
            refine bodyPost_ret (v := .tuple #[.slice (some ⟨b8, 0, none⟩) ls.length ls.length, .int .i64 0]) (by simp [results, Try.results11, go_sem]) rfl ⟨some ⟨b8, 0, none⟩, ls.length, fmOf ls, 0, by rw [hlf], by rw [hlf]; exact K1.out, ⟨fun _ => ⟨rfl, HEq.out⟩, fun h => absurd HA.out h⟩, HB8.out⟩
        · have zk4 : ¬ (c = f.length) := hce
          have hK : f.length ≤ f.length := Nat.le_refl _
          have HOnes : Hid (∀ p ∈ f.take f.length, p.length = 1) := Lib.hid (fun p hp => by have := hall p (List.mem_of_mem_take hp); simpa using this)
          clear hall
          have zk1 : (f.length : Int) ≤ (f.length : Int) := by omega
          have zk2 : (f.length : Int) ≤ (c : Int) := by omega
          have zk3 : (0 : Int) ≤ (f.length : Int) := by omega
          have hft := (HF.out.next HB2.out).take f.length hK
          have hfs : (f.take f.length).flatten.length ≤ 100000 := by
            have h5 : (f.take f.length).flatten.length + (f.drop f.length).flatten.length = f.flatten.length := by rw [← List.length_append, ← List.flatten_append, List.take_append_drop]
            have := hflat.out
            omega
          have hC := fConcatI _ (some ⟨ba, oa, sa⟩) f.length c w2 hft.srcs (by rw [fm_sum]; omega)
          rw [fm_sum, fm_cat] at hC
          have HC := Lib.hid hC
          have HUp := Lib.hid (ones_up (List.Pairwise.sublist (List.take_sublist f.length f) HFm.out.sorted) HOnes.out)
          have HN0 : Hid (∀ x ∈ (f.take f.length).flatten, 0 ≤ x ∧ x ≤ 9223372036854775807) := Lib.hid (fun x hx => by
            obtain ⟨p, hp, hx⟩ := List.mem_flatten.1 hx
            have hpf := List.mem_of_mem_take hp
            obtain ⟨j, hj, rfl⟩ := List.mem_iff_getElem.1 hpf
            obtain ⟨_, _, _, _, _, _, _, hi⟩ := HF.out.at j hj
            obtain ⟨_, _, _, _, _, h4, _⟩ := hi
            rw [paAt_lt hj] at h4
            exact ⟨(HFm.out.up _ hpf).2 x hx, (h4 x hx).2⟩)
          have HHold : Hid (∀ on, holdsS [(f.take f.length).flatten] on = dualH (f.take f.length) on) := Lib.hid (fun on => ones_holds HOnes.out on)
          have HFsl := Lib.hid hfs
          clear hC hft hfs

          go_wp2_with fail
          try go_wp2_with fail
          refine HC.out.mono ?_
          rintro e w3 ⟨v3, rfl, o1, o2⟩
          have HB3 := Lib.hid (HB2.out.trans (o2.mono HB2.out.size))
          obtain ⟨F, hF⟩ : ∃ F, (f.take f.length).flatten = F := ⟨_, rfl⟩
          rw [hF] at o1 HUp HN0 HHold HFsl
          obtain ⟨A3, c3, rfl, i3, _⟩ := own_ints o1 (fun x hx => by have := HN0.out x hx; unfold IsI; omega)
          have I3 := Lib.hid i3
          have hFi : Hid (∀ x ∈ F, x ∈ atomsS [f, []]) := Lib.hid (fun x hx => by
            rw [← hF] at hx
            obtain ⟨p, hp, hx⟩ := List.mem_flatten.1 hx
            exact atoms_mem.2 ⟨f, by simp, p, List.mem_of_mem_take hp, hx⟩)
          clear o1 o2 i3 hF
          go_wp2_with fail
          refine (fPartOf F A3 _ c3 w3 I3.out (fun x hx => (HN0.out x hx).1)).mono ?_
          rintro e w4 ⟨m, rfl, hmk, hb4⟩
          have HM := Lib.hid hmk
          have HB4 := Lib.hid (HB3.out.trans (hb4.mono HB3.out.size))
          have hpt : PtOk w4 (fun _ => False) ⟨.slice A3 F.length c3, m, F⟩ := ints_ptok (I3.out.next hb4) (fun _ _ _ _ h => h) HUp.out HN0.out HM.out
          have hps := one_row hpt
          have hb5 : Below w4.heap.size w4 (w4.alloc (.cells #[.slice A3 F.length c3, .int .u64 m] 50)) := (Below.refl _ _).alloc (Nat.le_refl _) _
          have HPs := Lib.hid hps
          have HB5 := Lib.hid (HB4.out.trans (hb5.mono HB4.out.size))
          clear hmk hb4 hpt hps hb5
          go_wp2_with fail
          generalize w4.alloc (.cells #[.slice A3 F.length c3, .int .u64 m] 50) = W5 at HPs HB5 ⊢
          generalize w4.heap.size = s4 at HPs ⊢

          go_loopw [5, 6, 28] (fun s5 s6 v wr => s5 = .slice (some ⟨s4, 0, none⟩) 1 1 ∧ s6 = .bool true ∧ v = .int .i64 0 ∧ W5 = wr) (fun _ _ _ _ => 0)
          case atStart => exact ⟨rfl, rfl, rfl, rfl⟩
          case round =>
            obtain ⟨rfl, rfl, rfl, rfl⟩ := hrel
            obtain ⟨ls, s1, s2, s3, s5⟩ : ∃ ls : List Pt, PsAt W5 (.slice (some ⟨s4, 0, none⟩) 1 1) ls ∧ Fmd (fmOf ls) ∧ InL (atomsS [f, []]) ls ∧ ∀ on, holdsS (fmOf ls) on = dualH f on :=
              ⟨_, HPs.out, one_fmd HUp.out (fun x hx => (HN0.out x hx).1), (fun x hx n hn => by rw [List.mem_singleton.1 hx] at hn; exact hFi.out n hn), fun on => by have := HHold.out on; rw [List.take_length] at this; exact this⟩
            have hll := fm_len (atoms_up [f, []]) hS.out.2 s3 s2
            have hans := fAnswer ls (some ⟨s4, 0, none⟩) 1 1 W5 s1 (by omega) (fun x hx => by have := up_le (atoms_up [f, []]) (s1.2 x hx).2.1.1 (s3 x hx); have := hS.out.2; omega)
            have hEq : fmOf ls = opS 2 f [] := dual_is HFm.out s2 s5
            have HAns := Lib.hid hans
            have HEq := Lib.hid hEq
            clear hans hEq s1 s2 s3 s5 hll
            go_wp2_with fail
            refine HAns.out.mono ?_
            rintro e w8 ⟨b8, rfl, k1, k2⟩
            have K1 := Lib.hid k1
            have HB8 := Lib.hid (HB5.out.trans (k2.mono HB5.out.size))
            clear k1 k2
            go_wp2_with fail
            have hlf : (fmOf ls).length = ls.length := by simp [fmOf]
            refine bodyPost_ret (v := .tuple #[.slice (some ⟨b8, 0, none⟩) ls.length ls.length, .int .i64 0]) (by simp [results, Try.results11, go_sem]) rfl ⟨some ⟨b8, 0, none⟩, ls.length, fmOf ls, 0, by rw [hlf], by rw [hlf]; exact K1.out, ⟨fun _ => ⟨rfl, HEq.out⟩, fun h => absurd HA.out h⟩, HB8.out⟩
    · have hz0 : ¬ ((k : Int) < 0) := by omega
      obtain ⟨ba, oa, _, _, rfl, _⟩ := HF.out.at k hk
      have hK : k ≤ f.length := (by omega)
      have HOnes : Hid (∀ p ∈ f.take k, p.length = 1) := Lib.hid (fun p hp => by
        obtain ⟨j, hj, rfl⟩ := List.mem_iff_getElem.1 hp
        have hj' : j < k := by rw [List.length_take] at hj; omega
        have := hall j hj'
        rw [paAt_lt (by omega)] at this
        rw [List.getElem_take]
        simpa using this)
      clear hall
      have zk1 : (k : Int) ≤ (f.length : Int) := by omega
      have zk2 : (k : Int) ≤ (c : Int) := by omega
      have zk3 : (0 : Int) ≤ (k : Int) := by omega
      have hft := (HF.out.next HB2.out).take k hK
      have hfs : (f.take k).flatten.length ≤ 100000 := by
        have h5 : (f.take k).flatten.length + (f.drop k).flatten.length = f.flatten.length := by rw [← List.length_append, ← List.flatten_append, List.take_append_drop]
        have := hflat.out
        omega
      have hC := fConcatI _ (some ⟨ba, oa, none⟩) k c w2 hft.srcs (by rw [fm_sum]; omega)
      rw [fm_sum, fm_cat] at hC
      have HC := Lib.hid hC
      have HUp := Lib.hid (ones_up (List.Pairwise.sublist (List.take_sublist k f) HFm.out.sorted) HOnes.out)
      have HN0 : Hid (∀ x ∈ (f.take k).flatten, 0 ≤ x ∧ x ≤ 9223372036854775807) := Lib.hid (fun x hx => by
        obtain ⟨p, hp, hx⟩ := List.mem_flatten.1 hx
        have hpf := List.mem_of_mem_take hp
        obtain ⟨j, hj, rfl⟩ := List.mem_iff_getElem.1 hpf
        obtain ⟨_, _, _, _, _, _, _, hi⟩ := HF.out.at j hj
        obtain ⟨_, _, _, _, _, h4, _⟩ := hi
        rw [paAt_lt hj] at h4
        exact ⟨(HFm.out.up _ hpf).2 x hx, (h4 x hx).2⟩)
      have HHold : Hid (∀ on, holdsS [(f.take k).flatten] on = dualH (f.take k) on) := Lib.hid (fun on => ones_holds HOnes.out on)
      have HFsl := Lib.hid hfs
      clear hC hft hfs
      have zk4 : ¬ (c = k) := by omega
      go_wp2_with fail
      try go_wp2_with fail
      refine HC.out.mono ?_
      rintro e w3 ⟨v3, rfl, o1, o2⟩
      have HB3 := Lib.hid (HB2.out.trans (o2.mono HB2.out.size))
      obtain ⟨F, hF⟩ : ∃ F, (f.take k).flatten = F := ⟨_, rfl⟩
      rw [hF] at o1 HUp HN0 HHold HFsl
      obtain ⟨A3, c3, rfl, i3, _⟩ := own_ints o1 (fun x hx => by have := HN0.out x hx; unfold IsI; omega)
      have I3 := Lib.hid i3
      have hFi : Hid (∀ x ∈ F, x ∈ atomsS [f, []]) := Lib.hid (fun x hx => by
        rw [← hF] at hx
        obtain ⟨p, hp, hx⟩ := List.mem_flatten.1 hx
        exact atoms_mem.2 ⟨f, by simp, p, List.mem_of_mem_take hp, hx⟩)
      clear o1 o2 i3 hF
      go_wp2_with fail
      refine (fPartOf F A3 _ c3 w3 I3.out (fun x hx => (HN0.out x hx).1)).mono ?_
      rintro e w4 ⟨m, rfl, hmk, hb4⟩
      have HM := Lib.hid hmk
      have HB4 := Lib.hid (HB3.out.trans (hb4.mono HB3.out.size))
      have hpt : PtOk w4 (fun _ => False) ⟨.slice A3 F.length c3, m, F⟩ := ints_ptok (I3.out.next hb4) (fun _ _ _ _ h => h) HUp.out HN0.out HM.out
      have hps := one_row hpt
      have hb5 : Below w4.heap.size w4 (w4.alloc (.cells #[.slice A3 F.length c3, .int .u64 m] 50)) := (Below.refl _ _).alloc (Nat.le_refl _) _
      have HPs := Lib.hid hps
      have HB5 := Lib.hid (HB4.out.trans (hb5.mono HB4.out.size))
      clear hmk hb4 hpt hps hb5
      go_wp2_with fail
      generalize w4.alloc (.cells #[.slice A3 F.length c3, .int .u64 m] 50) = W5 at HPs HB5 ⊢
      generalize w4.heap.size = s4 at HPs ⊢
      have HD : Hid (FmAt w (.slice (some ⟨ba, oa + k, none⟩) (f.length - k) (c - k)) (f.drop k)) := Lib.hid (by
        have := HF.out.drop k hK
        rwa [if_neg zk4] at this)
      go_loopw [5, 6, 28] (fun s5 s6 v wr => ∃ (i n5 c5 : Nat) (A5 : Option Addr), i ≤ f.length - k ∧ v = .int .i64 i ∧ s6 = .bool true ∧ s5 = .slice A5 n5 c5 ∧ Hid (Below w.heap.size w wr) ∧ Hid (∃ ls : List Pt, PsAt wr (.slice A5 n5 c5) ls ∧ Fmd (fmOf ls) ∧ InL (atomsS [f, []]) ls ∧ ∀ on, holdsS (fmOf ls) on = dualH (f.take (k + i)) on)) (fun _ _ v _ => f.length - k - (intOf v).toNat)
      case atStart => exact ⟨0, 1, 1, some ⟨s4, 0, none⟩, Nat.zero_le _, rfl, rfl, rfl, HB5, Lib.hid ⟨_, HPs.out, one_fmd HUp.out (fun x hx => (HN0.out x hx).1), fun x hx n hn => by
        rw [List.mem_singleton.1 hx] at hn; exact hFi.out n hn, fun on => by rw [Nat.add_zero]; exact HHold.out on⟩⟩
      case round =>
        obtain ⟨i, n5, c5, A5, hi, rfl, rfl, rfl, HB, HS⟩ := hrel
        by_cases hlt : i < f.length - k
        · have h1 : (0 : Int) ≤ (i : Int) := by omega
          have h2 : (i : Int) < ((f.length - k : Nat) : Int) := by omega
          have h2' : (i : Int) < (f.length : Int) - (k : Int) := by omega
          have hdl : i < (f.drop k).length := by rw [List.length_drop]; exact hlt
          obtain ⟨b8, off8, A8, c8, hA8, _, q0, hp⟩ := (HD.out.next HB.out).at i hdl
          injection hA8 with hA8
          injection hA8 with e1 e2
          subst e1 e2
          have hmem : paAt (f.drop k) i ∈ f := by rw [paAt_lt hdl]; exact List.mem_of_mem_drop (List.getElem_mem hdl)
          have hlen8 : (paAt (f.drop k) i).length ≤ 100000 := by have := part_le hmem; have := hflat.out; omega
          have hAt := fAtomsOf (paAt (f.drop k) i) A8 _ c8 wr hp (by omega) (HFm.out.up _ hmem).2
          have HAt := Lib.hid hAt
          have HMem := Lib.hid hmem
          have HLen8 := Lib.hid hlen8
          clear hAt hp hmem hlen8 hdl
          go_wp2_with fail
          refine HAt.out.mono ?_
          rintro e w6 ⟨v6, ps, rfl, p1, p2, p3, p4⟩
          obtain ⟨ls, s1, s2, s3, s4', s5⟩ : ∃ ls : List Pt, PsAt wr (.slice A5 n5 c5) ls ∧ Fmd (fmOf ls) ∧ InL (atomsS [f, []]) ls ∧ (True ∧ ∀ on, holdsS (fmOf ls) on = dualH (f.take (k + i)) on) := by
            obtain ⟨ls, a, b, c, d⟩ := HS.out
            exact ⟨ls, a, b, c, trivial, d⟩
          have r6 : PsAt w6 v6 ps := p1.read (fun x hx => (p2 x hx).forget (fun _ _ h => h.elim))
          have hpsl : ps.length = (paAt (f.drop k) i).length := by rw [← List.length_map (f := (·.l)), p3, List.length_map]
          have hpin : InL (atomsS [f, []]) ps := fun x hx n hn => by
            have : x.l ∈ ps.map (·.l) := List.mem_map.2 ⟨x, hx, rfl⟩
            rw [p3] at this
            obtain ⟨y, hy, e⟩ := List.mem_map.1 this
            rw [← e, List.mem_singleton] at hn
            subst hn
            exact atoms_mem.2 ⟨f, by simp, _, HMem.out, hy⟩
          have hp9 : ps.length ≤ 1000 := by
            have := up_le (atoms_up [f, []]) (HFm.out.up _ HMem.out).1 (fun x hx => atoms_mem.2 ⟨f, by simp, _, HMem.out, hx⟩)
            have := hS.out.2
            omega
          obtain ⟨A6, c6, rfl⟩ := own_slice p1
          have hAn := fAnd ls ps (atomsS [f, []]) A5 A6 n5 c5 _ c6 w6 (s1.next p4) r6 (atoms_up _) hS.out.2 s3 hpin hp9
          have HAn := Lib.hid hAn
          have HP3 := Lib.hid p3
          have HB6 := Lib.hid (HB.out.trans (p4.mono HB.out.size))
          have HS5 := Lib.hid s5
          clear hAn p1 p2 p3 p4 s1 s2 s3 s4' s5 r6 hpsl hpin hp9
          go_wp2_with fail
          refine HAn.out.mono ?_
          rintro e w7 ⟨v7, r7, rfl, l1, l2, l3, l4, l5, l6⟩
          obtain ⟨A7, c7, rfl⟩ := own_slice l1
          have r7r : PsAt w7 (.slice A7 r7.length c7) r7 := l1.read (fun x hx => (l2 x hx).forget (fun _ _ h => h.elim))
          have R7 := Lib.hid r7r
          have L3 := Lib.hid l3
          have L4 := Lib.hid l4
          have L5 := Lib.hid l5
          have HB7 := Lib.hid (HB6.out.trans (l6.mono HB6.out.size))
          clear l1 l2 l3 l4 l5 l6 r7r
          go_wp2_with fail
          refine ⟨⟨i + 1, _, _, _, by omega, by go_num, rfl, rfl, HB7, Lib.hid ⟨r7, R7.out, L3.out, L4.out, fun on => ?_⟩⟩, by simp [intOf]; omega⟩
          have e9 : f.take (k + (i + 1)) = f.take (k + i) ++ [paAt (f.drop k) i] := by
            rw [← Nat.add_assoc, take_step f (k + i) (by omega), paAt_lt (by rw [List.length_drop]; omega), List.getElem_drop]
          rw [L5.out on, HS5.out on, e9, dualH_app, dualH_one]
          show (_ && holdsS (ps.map (·.l)) on) = _
          rw [HP3.out, atoms_holds]
        · obtain rfl : i = f.length - k := by omega
          obtain ⟨ls, s1, s2, s3, s5⟩ := HS.out
          obtain rfl := s1.len
          have hll := fm_len (atoms_up [f, []]) hS.out.2 s3 s2
          have hans := fAnswer ls A5 _ c5 wr s1 (by omega) (fun x hx => by have := up_le (atoms_up [f, []]) (s1.2 x hx).2.1.1 (s3 x hx); have := hS.out.2; omega)
          have hEq : fmOf ls = opS 2 f [] := dual_is HFm.out s2 (fun on => by rw [s5 on, show k + (f.length - k) = f.length by omega, List.take_length])
          have HAns := Lib.hid hans
          have HEq := Lib.hid hEq
          clear hans hEq s1 s2 s3 s5 hll
          go_wp2_with fail
          refine HAns.out.mono ?_
          rintro e w8 ⟨b8, rfl, k1, k2⟩
          have K1 := Lib.hid k1
          have HB8 := Lib.hid (HB.out.trans (k2.mono HB.out.size))
          clear k1 k2
          go_wp2_with fail
          have hlf : (fmOf ls).length = ls.length := by simp [fmOf]
          refine bodyPost_ret (v := .tuple #[.slice (some ⟨b8, 0, none⟩) ls.length ls.length, .int .i64 0]) (by simp [results, Try.results11, go_sem]) rfl ⟨some ⟨b8, 0, none⟩, ls.length, fmOf ls, 0, by rw [hlf], by rw [hlf]; exact K1.out, ⟨fun _ => ⟨rfl, HEq.out⟩, fun h => absurd HA.out h⟩, HB8.out⟩

end Go.Proofs.Ytehokjaojanieaa
