/- package formula: Or, And. -/
import Derived.Test.YtehokjaojanieaaFoQ
namespace Go.Proofs.Ytehokjaojanieaa
open Go.RowKit
set_option linter.unusedVariables false
set_option linter.unusedSimpArgs false

theorem srcs_two {w : World} {sz : Nat} {u v : Value} {m n : Nat} {xs ys : List Value} {T : TypeId} (h : Src w sz u m xs) (h' : Src w sz v n ys) : SrcsAt (w.alloc (.cells #[u, v] T)) sz (.slice (some ⟨w.heap.size, 0, none⟩) 2 2) [(m, xs), (n, ys)] := by
  have hb : Below w.heap.size w (w.alloc (.cells #[u, v] T)) := (Below.refl _ _).alloc (Nat.le_refl _) _
  have hA := At.new w T #[u, v]
  refine ⟨_, 2, rfl, Nat.le_refl _, by omega, fun _ => ⟨w.heap.size, 0, rfl, hA.lt, fun j hj => ?_⟩⟩
  have hj' : j < 2 := hj
  match j, hj' with
  | 0, _ => exact ⟨u, hA.cell 0, h.next hb⟩
  | 1, _ => exact ⟨v, hA.cell 1, h'.next hb⟩
theorem in_atoms {f : Fm} {fs : List Fm} {ps : List Pt} (hps : ps.map (·.l) = f) (hf : f ∈ fs) : InL (atomsS fs) ps := fun x hx n hn =>
  atoms_mem.2 ⟨f, hf, x.l, by rw [← hps]; exact List.mem_map.2 ⟨x, hx, rfl⟩, hn⟩
theorem fmd_up {f : Fm} (h : Fmd f) : ∀ p ∈ f, Up p ∧ ∀ x ∈ p, 0 ≤ x := h.up
theorem nil_fm (w : World) : FmAt w (.slice none 0 0) [] := ⟨none, 0, rfl, Nat.le_refl _, by omega, fun h => absurd h (Nat.lt_irrefl _)⟩
theorem fm_le {f : Fm} (h : Fmd f) (hl : f.flatten.length ≤ 100000) : f.length ≤ 100001 := by have := fm_count h.sorted; omega

set_option maxRecDepth 100000 in
set_option maxHeartbeats 8000000 in
theorem fOrC {w : World} {A B : Option Addr} {n c m d : Nat} {f g : Fm} (hf : FmAt w (.slice A n c) f) (hg : FmAt w (.slice B m d) g) (hs : Small f g) :
    Calls Try.prog 9 #[.slice A n c, .slice B m d] w fun e w' => Answer w e w' (fun x er => (fmS f = true ∧ fmS g = true → er = 0 ∧ x = opS 0 f g) ∧ (¬ (fmS f = true ∧ fmS g = true) → er = 1 ∧ x = [])) := by
  have HF := Lib.hid hf
  have HG := Lib.hid hg
  have hS := Lib.hid hs
  have h1 := fFormed hf (by have := hs.1; omega)
  have h2 := fun w' (hb : Below w.heap.size w w') => fFormed (hg.next hb) (by have := hs.1; omega)
  obtain ⟨a, ha⟩ : ∃ a, fmS f = a := ⟨_, rfl⟩
  obtain ⟨b, hb⟩ : ∃ b, fmS g = b := ⟨_, rfl⟩
  rw [ha] at h1
  have H1 := Lib.hid h1
  have H2 : Hid (∀ w', Below w.heap.size w w' → Calls Try.prog 8 #[.slice B m d] w' fun e w'' => e = .returned (.bool b) ∧ Below w'.heap.size w' w'') := Lib.hid (fun w' hb' => by have := h2 w' hb'; rwa [hb] at this)
  have HA := Lib.hid ha
  have HB := Lib.hid hb
  clear hf hg hs h1 h2 ha hb
  go_enter Try.func9, Try.ntmps9
  cases a
  · go_wp2_with fail
    refine H1.out.mono ?_
    rintro e w1 ⟨rfl, hb1⟩
    have HB1 := Lib.hid hb1
    clear hb1
    go_wp2_with fail
    exact bodyPost_ret (v := .tuple #[.slice none 0 0, .int .i64 1]) (by simp [results, Try.results9, go_sem]) rfl ⟨none, 0, [], 1, rfl, nil_fm _, ⟨fun h => by rw [HA.out] at h; exact absurd h.1 (by simp), fun _ => ⟨rfl, rfl⟩⟩, HB1.out⟩
  · cases b
    · go_wp2_with fail
      refine H1.out.mono ?_
      rintro e w1 ⟨rfl, hb1⟩
      have HB1 := Lib.hid hb1
      clear hb1
      go_wp2_with fail
      refine (H2.out w1 HB1.out).mono ?_
      rintro e w2 ⟨rfl, hb2⟩
      have HB2 := Lib.hid (HB1.out.trans (hb2.mono HB1.out.size))
      clear hb2
      go_wp2_with fail
      exact bodyPost_ret (v := .tuple #[.slice none 0 0, .int .i64 1]) (by simp [results, Try.results9, go_sem]) rfl ⟨none, 0, [], 1, rfl, nil_fm _, ⟨fun h => by rw [HB.out] at h; exact absurd h.2 (by simp), fun _ => ⟨rfl, rfl⟩⟩, HB2.out⟩
    · have HFm := Lib.hid (fm_of HA.out)
      have HGm := Lib.hid (fm_of HB.out)
      go_wp2_with fail
      refine H1.out.mono ?_
      rintro e w1 ⟨rfl, hb1⟩
      have HB1 := Lib.hid hb1
      clear hb1
      go_wp2_with fail
      refine (H2.out w1 HB1.out).mono ?_
      rintro e w2 ⟨rfl, hb2⟩
      have HB2 := Lib.hid (HB1.out.trans (hb2.mono HB1.out.size))
      clear hb2
      go_wp2_with fail
      refine (fPartsOf f A n c w2 (HF.out.next HB2.out) (by have := fm_le HFm.out (by have := hS.out.1; omega); omega) (fmd_up HFm.out)).mono ?_
      rintro e w3 ⟨v3, ps, rfl, p1, p2, p3, p4⟩
      have HB3 := Lib.hid (HB2.out.trans (p4.mono HB2.out.size))
      have P1 := Lib.hid p1
      have P2 := Lib.hid p2
      have P3 := Lib.hid p3
      clear p1 p2 p3 p4
      go_wp2_with fail
      refine (fPartsOf g B m d w3 (HG.out.next HB3.out) (by have := fm_le HGm.out (by have := hS.out.1; omega); omega) (fmd_up HGm.out)).mono ?_
      rintro e w4 ⟨v4, qs, rfl, q1, q2, q3, q4⟩
      have hB34 := Lib.hid q4
      have HB4 := Lib.hid (HB3.out.trans (q4.mono HB3.out.size))
      have Q1 := Lib.hid q1
      have Q2 := Lib.hid q2
      have Q3 := Lib.hid q3
      clear q1 q2 q3 q4
      have r1 : PsAt w4 v3 ps := (P1.out.next hB34.out).read (fun x hx => ((P2.out x hx).below hB34.out).forget (fun _ _ h => h.elim))
      have r2 : PsAt w4 v4 qs := Q1.out.read (fun x hx => (Q2.out x hx).forget (fun _ _ h => h.elim))
      have iP : InL (atomsS [f, g]) ps := in_atoms P3.out (by simp)
      have iQ : InL (atomsS [f, g]) qs := in_atoms Q3.out (by simp)
      have hpl : ps.length ≤ 126 := fm_len (atoms_up _) hS.out.2 iP (by show Fmd (ps.map (·.l)); rw [P3.out]; exact HFm.out)
      have hql : qs.length ≤ 126 := fm_len (atoms_up _) hS.out.2 iQ (by show Fmd (qs.map (·.l)); rw [Q3.out]; exact HGm.out)
      have hsrc := srcs_two (T := 44) r1.src r2.src
      have hba : Below w4.heap.size w4 (w4.alloc (.cells #[v3, v4] 44)) := (Below.refl _ _).alloc (Nat.le_refl _) _
      have hsum : sumS [(ps.length, ps.flatMap encP), (qs.length, qs.flatMap encP)] = (ps ++ qs).length := by simp [sumS]
      have hcat : catS [(ps.length, ps.flatMap encP), (qs.length, qs.flatMap encP)] = (ps ++ qs).flatMap encP := by simp [catS]
      have hC := fConcatP _ _ _ _ _ hsrc (by rw [hsum, List.length_append]; omega)
      rw [hsum, hcat] at hC
      have HC := Lib.hid hC
      have HBa := Lib.hid hba
      obtain ⟨A3, c3, rfl⟩ := own_slice P1.out
      obtain ⟨A4, c4, rfl⟩ := own_slice Q1.out
      have IP := Lib.hid iP
      have IQ := Lib.hid iQ
      clear hC hba hsrc hsum hcat r1 r2 iP iQ
      go_wp2_with fail
      refine HC.out.mono ?_
      rintro e w5 ⟨v5, rfl, o1, o2⟩
      have o1' : Pts w5 w.heap.size v5 (ps ++ qs) := Pts.low (base := (w4.alloc (.cells #[.slice A3 ps.length c3, .slice A4 qs.length c4] 44)).heap.size) o1 (Nat.le_trans HB4.out.size HBa.out.size)
      have hlow := World.ownsRow.lt o1
      have hB45 : Below w4.heap.size w4 w5 := HBa.out.trans (o2.mono HBa.out.size)
      have hok : ∀ x ∈ ps ++ qs, PtOk w5 (fun b => v5.ownBlock = some b) x := by
        intro x hx
        rcases List.mem_append.1 hx with h | h
        · refine ((((P2.out x h).forget (R' := fun _ => False) (fun _ _ h => h.elim)).below hB34.out).below (Below.refl _ _)).kept (R' := fun b => v5.ownBlock = some b) hB45.size (fun b _ hb => hB45.block b hb) (fun b hb e => ?_)
          have := (hlow b e).1
          have := HBa.out.size
          omega
        · refine ((Q2.out x h).forget (R' := fun _ => False) (fun _ _ h => h.elim)).kept (R' := fun b => v5.ownBlock = some b) hB45.size (fun b _ hb => hB45.block b hb) (fun b hb e => ?_)
          have := (hlow b e).1
          have := HBa.out.size
          omega
      have hin : InL (atomsS [f, g]) (ps ++ qs) := fun x hx => by
        rcases List.mem_append.1 hx with h | h
        · exact IP.out x h
        · exact IQ.out x h
      have hLe := fLeast (ps ++ qs) 200 v5 w.heap.size w5 o1' hok (by rw [List.length_append]; omega) (fun x hx => by have := up_le (atoms_up [f, g]) (hok x hx).2.1.1 (hin x hx); have := hS.out.2; omega) (by omega) (few_most (atoms_up _) hS.out.2 hin)
      have HLe := Lib.hid hLe
      have HB5 := Lib.hid (HB4.out.trans (hB45.mono HB4.out.size))
      have HIn := Lib.hid hin
      have HOk := Lib.hid hok
      clear hLe o1 o2 o1' hlow hB45 hok hin
      go_wp2_with fail
      refine HLe.out.mono ?_
      rintro e w7 ⟨v7, r, rfl, l1, ⟨m1, m2⟩, m3, m4⟩
      obtain ⟨A7, c7, rfl⟩ := own_slice l1
      have l2 : Fmd (fmOf r) := m3.1
      have l3 := least_in m3 HIn.out
      have l4 : ∀ x ∈ r, PtOk w7 (fun _ => False) x := fun x hx => (m2 (fun b => v5.ownBlock = some b) (fun b e => e) HOk.out x hx).forget (fun _ _ h => h.elim)
      have l5 : ∀ on, holdsS (fmOf r) on = (holdsS f on || holdsS g on) := fun on => by rw [m3.holds on, ← P3.out, ← Q3.out, ← holds_app, ← List.map_append]
      have l6 : Below w.heap.size w w7 := below_gr HB5.out HB5.out.size m4 (fun k e => by rw [← m1] at e; exact (World.ownsRow.lt l1 k e).1)
      clear m1 m2 m3 m4
      have hrl := fm_len (atoms_up _) hS.out.2 l3 l2
      have hr5 : PsAt w7 (.slice A7 r.length c7) r := l1.read l4
      have hans := fAnswer r A7 _ c7 w7 hr5 (by omega) (fun x hx => by have := up_le (atoms_up [f, g]) (l4 x hx).2.1.1 (l3 x hx); have := hS.out.2; omega)
      have hEq : fmOf r = opS 0 f g := fm_unique l2 (or_fmd HFm.out HGm.out).1 (fun on => by rw [l5 on, (or_fmd HFm.out HGm.out).2 on])
      have HAns := Lib.hid hans
      have HEq := Lib.hid hEq
      have HB7 := Lib.hid l6
      have HRl := Lib.hid hrl
      clear hans hEq l1 l2 l3 l4 l5 l6 hr5 hrl
      have hle : (r.length : Int) ≤ 200 := by have := HRl.out; omega
      go_wp2_with fail
      try go_wp2_with fail
      refine HAns.out.mono ?_
      rintro e w8 ⟨b8, rfl, k1, k2⟩
      have K1 := Lib.hid k1
      have HB8 := Lib.hid (HB7.out.trans (k2.mono HB7.out.size))
      clear k1 k2
      go_wp2_with fail
      have hlf : (fmOf r).length = r.length := by simp [fmOf]
      refine bodyPost_ret (v := .tuple #[.slice (some ⟨b8, 0, none⟩) r.length r.length, .int .i64 0]) (by simp [results, Try.results9, go_sem]) rfl ⟨some ⟨b8, 0, none⟩, r.length, fmOf r, 0, by rw [hlf], by rw [hlf]; exact K1.out, ⟨fun _ => ⟨rfl, HEq.out⟩, fun h => absurd ⟨HA.out, HB.out⟩ h⟩, HB8.out⟩

set_option maxRecDepth 100000 in
set_option maxHeartbeats 8000000 in
theorem fAndC {w : World} {A B : Option Addr} {n c m d : Nat} {f g : Fm} (hf : FmAt w (.slice A n c) f) (hg : FmAt w (.slice B m d) g) (hs : Small f g) :
    Calls Try.prog 10 #[.slice A n c, .slice B m d] w fun e w' => Answer w e w' (fun x er => (fmS f = true ∧ fmS g = true → er = 0 ∧ x = opS 1 f g) ∧ (¬ (fmS f = true ∧ fmS g = true) → er = 1 ∧ x = [])) := by
  have HF := Lib.hid hf
  have HG := Lib.hid hg
  have hS := Lib.hid hs
  have h1 := fFormed hf (by have := hs.1; omega)
  have h2 := fun w' (hb : Below w.heap.size w w') => fFormed (hg.next hb) (by have := hs.1; omega)
  obtain ⟨a, ha⟩ : ∃ a, fmS f = a := ⟨_, rfl⟩
  obtain ⟨b, hb⟩ : ∃ b, fmS g = b := ⟨_, rfl⟩
  rw [ha] at h1
  have H1 := Lib.hid h1
  have H2 : Hid (∀ w', Below w.heap.size w w' → Calls Try.prog 8 #[.slice B m d] w' fun e w'' => e = .returned (.bool b) ∧ Below w'.heap.size w' w'') := Lib.hid (fun w' hb' => by have := h2 w' hb'; rwa [hb] at this)
  have HA := Lib.hid ha
  have HB := Lib.hid hb
  clear hf hg hs h1 h2 ha hb
  go_enter Try.func10, Try.ntmps10
  cases a
  · go_wp2_with fail
    refine H1.out.mono ?_
    rintro e w1 ⟨rfl, hb1⟩
    have HB1 := Lib.hid hb1
    clear hb1
    go_wp2_with fail
    exact bodyPost_ret (v := .tuple #[.slice none 0 0, .int .i64 1]) (by simp [results, Try.results10, go_sem]) rfl ⟨none, 0, [], 1, rfl, nil_fm _, ⟨fun h => by rw [HA.out] at h; exact absurd h.1 (by simp), fun _ => ⟨rfl, rfl⟩⟩, HB1.out⟩
  · cases b
    · go_wp2_with fail
      refine H1.out.mono ?_
      rintro e w1 ⟨rfl, hb1⟩
      have HB1 := Lib.hid hb1
      clear hb1
      go_wp2_with fail
      refine (H2.out w1 HB1.out).mono ?_
      rintro e w2 ⟨rfl, hb2⟩
      have HB2 := Lib.hid (HB1.out.trans (hb2.mono HB1.out.size))
      clear hb2
      go_wp2_with fail
      exact bodyPost_ret (v := .tuple #[.slice none 0 0, .int .i64 1]) (by simp [results, Try.results10, go_sem]) rfl ⟨none, 0, [], 1, rfl, nil_fm _, ⟨fun h => by rw [HB.out] at h; exact absurd h.2 (by simp), fun _ => ⟨rfl, rfl⟩⟩, HB2.out⟩
    · have HFm := Lib.hid (fm_of HA.out)
      have HGm := Lib.hid (fm_of HB.out)
      go_wp2_with fail
      refine H1.out.mono ?_
      rintro e w1 ⟨rfl, hb1⟩
      have HB1 := Lib.hid hb1
      clear hb1
      go_wp2_with fail
      refine (H2.out w1 HB1.out).mono ?_
      rintro e w2 ⟨rfl, hb2⟩
      have HB2 := Lib.hid (HB1.out.trans (hb2.mono HB1.out.size))
      clear hb2
      go_wp2_with fail
      refine (fPartsOf f A n c w2 (HF.out.next HB2.out) (by have := fm_le HFm.out (by have := hS.out.1; omega); omega) (fmd_up HFm.out)).mono ?_
      rintro e w3 ⟨v3, ps, rfl, p1, p2, p3, p4⟩
      have HB3 := Lib.hid (HB2.out.trans (p4.mono HB2.out.size))
      have P1 := Lib.hid p1
      have P2 := Lib.hid p2
      have P3 := Lib.hid p3
      clear p1 p2 p3 p4
      go_wp2_with fail
      refine (fPartsOf g B m d w3 (HG.out.next HB3.out) (by have := fm_le HGm.out (by have := hS.out.1; omega); omega) (fmd_up HGm.out)).mono ?_
      rintro e w4 ⟨v4, qs, rfl, q1, q2, q3, q4⟩
      have hB34 := Lib.hid q4
      have HB4 := Lib.hid (HB3.out.trans (q4.mono HB3.out.size))
      have Q1 := Lib.hid q1
      have Q2 := Lib.hid q2
      have Q3 := Lib.hid q3
      clear q1 q2 q3 q4
      have r1 : PsAt w4 v3 ps := (P1.out.next hB34.out).read (fun x hx => ((P2.out x hx).below hB34.out).forget (fun _ _ h => h.elim))
      have r2 : PsAt w4 v4 qs := Q1.out.read (fun x hx => (Q2.out x hx).forget (fun _ _ h => h.elim))
      have iP : InL (atomsS [f, g]) ps := in_atoms P3.out (by simp)
      have iQ : InL (atomsS [f, g]) qs := in_atoms Q3.out (by simp)
      have hpl : ps.length ≤ 126 := fm_len (atoms_up _) hS.out.2 iP (by show Fmd (ps.map (·.l)); rw [P3.out]; exact HFm.out)
      have hql : qs.length ≤ 126 := fm_len (atoms_up _) hS.out.2 iQ (by show Fmd (qs.map (·.l)); rw [Q3.out]; exact HGm.out)
      obtain ⟨A3, c3, rfl⟩ := own_slice P1.out
      obtain ⟨A4, c4, rfl⟩ := own_slice Q1.out
      have hAn := fAnd ps qs (atomsS [f, g]) A3 A4 _ c3 _ c4 w4 r1 r2 (atoms_up _) hS.out.2 iP iQ (by omega)
      have HAn := Lib.hid hAn
      clear hAn r1 r2 iP iQ
      go_wp2_with fail
      refine HAn.out.mono ?_
      rintro e w7 ⟨v7, r, rfl, l1, m2, l2, l3, m5, m6⟩
      obtain ⟨A7, c7, rfl⟩ := own_slice l1
      have l4 : ∀ x ∈ r, PtOk w7 (fun _ => False) x := fun x hx => (m2 x hx).forget (fun _ _ h => h.elim)
      have l5 : ∀ on, holdsS (fmOf r) on = (holdsS f on && holdsS g on) := fun on => by rw [m5 on, ← P3.out, ← Q3.out]
      have l6 : Below w.heap.size w w7 := HB4.out.trans (m6.mono HB4.out.size)
      clear m2 m5 m6
      have hrl := fm_len (atoms_up _) hS.out.2 l3 l2
      have hr5 : PsAt w7 (.slice A7 r.length c7) r := l1.read l4
      have hans := fAnswer r A7 _ c7 w7 hr5 (by omega) (fun x hx => by have := up_le (atoms_up [f, g]) (l4 x hx).2.1.1 (l3 x hx); have := hS.out.2; omega)
      have hEq : fmOf r = opS 1 f g := fm_unique l2 (and_fmd HFm.out HGm.out).1 (fun on => by rw [l5 on, (and_fmd HFm.out HGm.out).2 on])
      have HAns := Lib.hid hans
      have HEq := Lib.hid hEq
      have HB7 := Lib.hid l6
      have HRl := Lib.hid hrl
      clear hans hEq l1 l2 l3 l4 l5 l6 hr5 hrl
      go_wp2_with fail
      refine HAns.out.mono ?_
      rintro e w8 ⟨b8, rfl, k1, k2⟩
      have K1 := Lib.hid k1
      have HB8 := Lib.hid (HB7.out.trans (k2.mono HB7.out.size))
      clear k1 k2
      go_wp2_with fail
      have hlf : (fmOf r).length = r.length := by simp [fmOf]
      refine bodyPost_ret (v := .tuple #[.slice (some ⟨b8, 0, none⟩) r.length r.length, .int .i64 0]) (by simp [results, Try.results10, go_sem]) rfl ⟨some ⟨b8, 0, none⟩, r.length, fmOf r, 0, by rw [hlf], by rw [hlf]; exact K1.out, ⟨fun _ => ⟨rfl, HEq.out⟩, fun h => absurd ⟨HA.out, HB.out⟩ h⟩, HB8.out⟩

end Go.Proofs.Ytehokjaojanieaa
