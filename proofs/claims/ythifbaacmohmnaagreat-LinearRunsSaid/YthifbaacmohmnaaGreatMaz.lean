/- Joined: FoR, FgOps, FoS, FoT. -/
import Derived.Test.YthifbaacmohmnaaGreatMas
import Derived.Test.YthifbaacmohmnaaGreatMay
import Derived.Test.YthifbaacmohmnaaGreatMat
import Derived.Laws.EntriesVeiled
/- package formula: Or, And. -/
namespace Go.Proofs.YthifbaacmohmnaaGreat
open Go.RowKit
set_option linter.unusedVariables false
set_option linter.unusedSimpArgs false

theorem srcs_two {w : World} {sz : Nat} {u v : Value} {m n : Nat} {xs ys : List Value} {T : TypeId} (h : Src w sz u m xs) (h' : Src w sz v n ys) : SrcsAt (w.alloc (.cells #[u, v] T)) sz (.slice (some ⟨w.heap.size, 0, none⟩) 2 2) [(m, xs), (n, ys)] := by
  have hb : Below w.heap.size w (w.alloc (.cells #[u, v] T)) := (Below.refl _ _).alloc (Nat.le_refl _) _
  have hA := At.new w T #[u, v]
  refine ⟨_, 2, rfl, Nat.le_refl _, by omega, fun _ => ⟨w.heap.size, 0, rfl, hA.lt, fun j hj => ?_⟩⟩
  have hj' : j < 2 := hj
  match j, hj' with
  | 0, _ => exact ⟨u, hA.cell 0, h.next hb⟩
  | 1, _ => exact ⟨v, hA.cell 1, h'.next hb⟩
theorem fmd_up {f : Fm} (h : Fmd f) : ∀ p ∈ f, Up p ∧ ∀ x ∈ p, 0 ≤ x := h.up
end Go.Proofs.YthifbaacmohmnaaGreat

/- package formula: Or, And, of any formed formulas. -/
namespace Go.Proofs.YthifbaacmohmnaaGreat
open Go.RowKit
set_option linter.unusedVariables false
set_option linter.unusedSimpArgs false

set_option maxRecDepth 100000 in
set_option maxHeartbeats 8000000 in
theorem gOrF {w : World} {A B : Option Addr} {n c m d : Nat} {f g : Fm} (L : List Int) (hL : Up L) (h9 : L.length ≤ 20000) (hf : FmAt w (.slice A n c) f) (hg : FmAt w (.slice B m d) g) (hsf : FmIn L f) (hsg : FmIn L g) :
    Calls Tryz.prog 151 #[.slice A n c, .slice B m d] w (FmAns w L fun on => holdsS f on || holdsS g on) := by
  have HF := Lib.hid hf
  have HG := Lib.hid hg
  have HSf := Lib.hid hsf
  have HSg := Lib.hid hsg
  have HL := Lib.hid hL
  have H9 := Lib.hid h9
  have hpf : ∀ p ∈ f, p.length ≤ 100000 := fun p hp => by have := hsf.part hL hp; omega
  have hpg : ∀ p ∈ g, p.length ≤ 100000 := fun p hp => by have := hsg.part hL hp; omega
  have h1 := gFormed hf (by have := hsf.few; omega) hpf
  have h2 := fun w' (hb : Below w.heap.size w w') => gFormed (hg.next hb) (by have := hsg.few; omega) hpg
  rw [hsf.fm] at h1
  have H1 := Lib.hid h1
  have H2 : Hid (∀ w', Below w.heap.size w w' → Calls Tryz.prog 64 #[.slice B m d] w' fun e w'' => e = .returned (.bool true) ∧ Below w'.heap.size w' w'') := Lib.hid (fun w' hb' => by have := h2 w' hb'; rwa [hsg.fm] at this)
  have HFm := Lib.hid hsf.fmd
  have HGm := Lib.hid hsg.fmd
  clear hf hg hsf hsg hL h9 hpf hpg h1 h2
  go_enter Tryz.func151, Tryz.ntmps151
  go_wp2_with fail
  refine H1.out.mono ?_
  rintro e w1 ⟨rfl, hb1⟩
  have HB1 := Lib.hid hb1
  clear hb1
  go_wp2_with fail
  refine (H2.out w1 HB1.out).mono ?_
  rintro e w2 ⟨rfl, hb2⟩
  have HB2 := Lib.hid (HB1.out.trans (hb2.mono HB1.out.size))
  clear hb2
  go_wp2_with fail
  refine (fPartsOf f A n c w2 (HF.out.next HB2.out) (by have := HSf.out.few; omega) (fmd_up HFm.out)).mono ?_
  rintro e w3 ⟨v3, ps, rfl, p1, p2, p3, p4⟩
  have HB3 := Lib.hid (HB2.out.trans (p4.mono HB2.out.size))
  have P1 := Lib.hid p1
  have P2 := Lib.hid p2
  have P3 := Lib.hid p3
  clear p1 p2 p3 p4
  go_wp2_with fail
  refine (fPartsOf g B m d w3 (HG.out.next HB3.out) (by have := HSg.out.few; omega) (fmd_up HGm.out)).mono ?_
  rintro e w4 ⟨v4, qs, rfl, q1, q2, q3, q4⟩
  have hB34 := Lib.hid q4
  have HB4 := Lib.hid (HB3.out.trans (q4.mono HB3.out.size))
  have Q1 := Lib.hid q1
  have Q2 := Lib.hid q2
  have Q3 := Lib.hid q3
  clear q1 q2 q3 q4
  have r1 : PsAt w4 v3 ps := (P1.out.next hB34.out).read (fun x hx => ((P2.out x hx).below hB34.out).forget (fun _ _ h => h.elim))
  have r2 : PsAt w4 v4 qs := Q1.out.read (fun x hx => (Q2.out x hx).forget (fun _ _ h => h.elim))
  have iP : InL L ps := fun x hx n hn => HSf.out.inn x.l (by rw [← P3.out]; exact List.mem_map.2 ⟨x, hx, rfl⟩) n hn
  have iQ : InL L qs := fun x hx n hn => HSg.out.inn x.l (by rw [← Q3.out]; exact List.mem_map.2 ⟨x, hx, rfl⟩) n hn
  have hpl : ps.length ≤ 200 := by have := HSf.out.few; rw [← P3.out, List.length_map] at this; exact this
  have hql : qs.length ≤ 200 := by have := HSg.out.few; rw [← Q3.out, List.length_map] at this; exact this
  have hsrc := srcs_two (T := 138) r1.src r2.src
  have hba : Below w4.heap.size w4 (w4.alloc (.cells #[v3, v4] 138)) := (Below.refl _ _).alloc (Nat.le_refl _) _
  have hsum : sumE [(ps.length, ps.flatMap encP), (qs.length, qs.flatMap encP)] = (ps ++ qs).length := by simp [sumE]
  have hcat : catS [(ps.length, ps.flatMap encP), (qs.length, qs.flatMap encP)] = (ps ++ qs).flatMap encP := by simp [catS]
  have hC := fConcatP _ _ _ _ _ hsrc (by rw [hsum, List.length_append]; omega)
  rw [hsum, hcat] at hC
  have HC := Lib.hid hC
  have HBa := Lib.hid hba
  obtain ⟨A3, c3, rfl⟩ := own_slice P1.out
  obtain ⟨A4, c4, rfl⟩ := own_slice Q1.out
  have IP := Lib.hid iP
  have IQ := Lib.hid iQ
  clear hC hba hsrc hsum hcat r1 r2 iP iQ
  go_wp2_with fail
  refine HC.out.mono ?_
  rintro e w5 ⟨v5, rfl, o1, o2⟩
  have o1' : Pts w5 w.heap.size v5 (ps ++ qs) := Pts.low (base := (w4.alloc (.cells #[.slice A3 ps.length c3, .slice A4 qs.length c4] 138)).heap.size) o1 (Nat.le_trans HB4.out.size HBa.out.size)
  have hlow := World.ownsRow.lt o1
  have hB45 : Below w4.heap.size w4 w5 := HBa.out.trans (o2.mono HBa.out.size)
  have hok : ∀ x ∈ ps ++ qs, PtOk w5 (fun b => v5.ownBlock = some b) x := by
    intro x hx
    rcases List.mem_append.1 hx with h | h
    · refine ((((P2.out x h).forget (R' := fun _ => False) (fun _ _ h => h.elim)).below hB34.out).below (Below.refl _ _)).kept (R' := fun b => v5.ownBlock = some b) hB45.size (fun b _ hb => hB45.block b hb) (fun b hb e => ?_)
      have := (hlow b e).1
      have := HBa.out.size
      omega
    · refine ((Q2.out x h).forget (R' := fun _ => False) (fun _ _ h => h.elim)).kept (R' := fun b => v5.ownBlock = some b) hB45.size (fun b _ hb => hB45.block b hb) (fun b hb e => ?_)
      have := (hlow b e).1
      have := HBa.out.size
      omega
  have hin : InL L (ps ++ qs) := fun x hx => by
    rcases List.mem_append.1 hx with h | h
    · exact IP.out x h
    · exact IQ.out x h
  have hLe := gLeast (ps ++ qs) 200 v5 w.heap.size w5 o1' hok (by rw [List.length_append]; omega) (fun x hx => by have := up_le HL.out (hok x hx).2.1.1 (hin x hx); have := H9.out; omega) (by omega)
  have HLe := Lib.hid hLe
  have HB5 := Lib.hid (HB4.out.trans (hB45.mono HB4.out.size))
  have HIn := Lib.hid hin
  have HOk := Lib.hid hok
  clear hLe o1 o2 o1' hlow hB45 hok hin
  go_wp2_with fail
  refine HLe.out.mono ?_
  rintro e w7 ⟨v7, r, rfl, l1, ⟨m1, m2⟩, _, m3, m4⟩
  obtain ⟨A7, c7, rfl⟩ := own_slice l1
  have l6 : Below w.heap.size w w7 := below_gr HB5.out HB5.out.size m4 (fun k e => by rw [← m1] at e; exact (World.ownsRow.lt l1 k e).1)
  have HB7 := Lib.hid l6
  rcases m3 with ⟨hrl, m3⟩ | hrl
  · have l2 : Fmd (fmOf r) := m3.1
    have l3 := least_in m3 HIn.out
    have l4 : ∀ x ∈ r, PtOk w7 (fun _ => False) x := fun x hx => (m2 (fun b => v5.ownBlock = some b) (fun b e => e) HOk.out x hx).forget (fun _ _ h => h.elim)
    have l5 : ∀ on, holdsS (fmOf r) on = (holdsS f on || holdsS g on) := fun on => by rw [m3.holds on, ← P3.out, ← Q3.out, ← holds_app, ← List.map_append]
    have hr5 : PsAt w7 (.slice A7 r.length c7) r := l1.read l4
    have hans := gAnswer r A7 _ c7 w7 hr5 (by omega) (fun x hx => by have := up_le HL.out (l4 x hx).2.1.1 (l3 x hx); have := H9.out; omega)
    have HAns := Lib.hid hans
    have HIn2 : Hid (FmIn L (fmOf r)) := Lib.hid ⟨l2, fun p hp n hn => (by
      obtain ⟨x, hx, rfl⟩ := List.mem_map.1 hp
      exact l3 x hx n hn), by simp [fmOf]; exact hrl⟩
    have HHo := Lib.hid l5
    have hle : (r.length : Int) ≤ 200 := by omega
    clear hans l1 l2 l3 l4 l5 l6 hr5 hrl m1 m2 m3 m4
    go_wp2_with fail
    try go_wp2_with fail
    refine HAns.out.mono ?_
    rintro e w8 ⟨b8, rfl, k1, k2⟩
    have K1 := Lib.hid (k1.low (base' := w.heap.size) HB7.out.size)
    have HB8 := Lib.hid (HB7.out.trans (k2.mono HB7.out.size))
    clear k1 k2
    go_wp2_with fail
    have hlf : (fmOf r).length = r.length := by simp [fmOf]
    refine bodyPost_ret (v := .tuple #[.slice (some ⟨b8, 0, none⟩) r.length r.length, .int .i64 0]) (by simp [results, Tryz.results151, go_sem]) rfl ⟨some ⟨b8, 0, none⟩, r.length, fmOf r, 0, by rw [hlf], by rw [hlf]; exact K1.out, HIn2.out, Or.inl ⟨rfl, HHo.out⟩, HB8.out⟩
  · have hle : ¬ ((r.length : Int) ≤ 200) := by omega
    have hle2 : decide ((r.length : Int) ≤ 200) = false := decide_eq_false hle
    clear l1 m1 m2 m4 l6 hrl
    go_wp2_with fail
    try go_wp2_with fail
    refine (gAnswerNo _ _).mono ?_
    rintro e w8 ⟨rfl, h8⟩
    obtain rfl : w7 = w8 := h8.symm
    go_wp2_with fail
    exact bodyPost_ret (v := .tuple #[.slice none 0 0, .int .i64 4]) (by simp [results, Tryz.results151, go_sem]) rfl ⟨none, 0, [], 4, rfl, FmFrom.none _ _, FmIn.nil _, Or.inr ⟨rfl, rfl⟩, HB7.out⟩

set_option maxRecDepth 100000 in
set_option maxHeartbeats 8000000 in
theorem gAndF {w : World} {A B : Option Addr} {n c m d : Nat} {f g : Fm} (L : List Int) (hL : Up L) (h9 : L.length ≤ 20000) (hf : FmAt w (.slice A n c) f) (hg : FmAt w (.slice B m d) g) (hsf : FmIn L f) (hsg : FmIn L g) :
    Calls Tryz.prog 152 #[.slice A n c, .slice B m d] w (FmAns w L fun on => holdsS f on && holdsS g on) := by
  have HF := Lib.hid hf
  have HG := Lib.hid hg
  have HSf := Lib.hid hsf
  have HSg := Lib.hid hsg
  have HL := Lib.hid hL
  have H9 := Lib.hid h9
  have hpf : ∀ p ∈ f, p.length ≤ 100000 := fun p hp => by have := hsf.part hL hp; omega
  have hpg : ∀ p ∈ g, p.length ≤ 100000 := fun p hp => by have := hsg.part hL hp; omega
  have h1 := gFormed hf (by have := hsf.few; omega) hpf
  have h2 := fun w' (hb : Below w.heap.size w w') => gFormed (hg.next hb) (by have := hsg.few; omega) hpg
  rw [hsf.fm] at h1
  have H1 := Lib.hid h1
  have H2 : Hid (∀ w', Below w.heap.size w w' → Calls Tryz.prog 64 #[.slice B m d] w' fun e w'' => e = .returned (.bool true) ∧ Below w'.heap.size w' w'') := Lib.hid (fun w' hb' => by have := h2 w' hb'; rwa [hsg.fm] at this)
  have HFm := Lib.hid hsf.fmd
  have HGm := Lib.hid hsg.fmd
  clear hf hg hsf hsg hL h9 hpf hpg h1 h2
  go_enter Tryz.func152, Tryz.ntmps152
  go_wp2_with fail
  refine H1.out.mono ?_
  rintro e w1 ⟨rfl, hb1⟩
  have HB1 := Lib.hid hb1
  clear hb1
  go_wp2_with fail
  refine (H2.out w1 HB1.out).mono ?_
  rintro e w2 ⟨rfl, hb2⟩
  have HB2 := Lib.hid (HB1.out.trans (hb2.mono HB1.out.size))
  clear hb2
  go_wp2_with fail
  refine (fPartsOf f A n c w2 (HF.out.next HB2.out) (by have := HSf.out.few; omega) (fmd_up HFm.out)).mono ?_
  rintro e w3 ⟨v3, ps, rfl, p1, p2, p3, p4⟩
  have HB3 := Lib.hid (HB2.out.trans (p4.mono HB2.out.size))
  have P1 := Lib.hid p1
  have P2 := Lib.hid p2
  have P3 := Lib.hid p3
  clear p1 p2 p3 p4
  go_wp2_with fail
  refine (fPartsOf g B m d w3 (HG.out.next HB3.out) (by have := HSg.out.few; omega) (fmd_up HGm.out)).mono ?_
  rintro e w4 ⟨v4, qs, rfl, q1, q2, q3, q4⟩
  have hB34 := Lib.hid q4
  have HB4 := Lib.hid (HB3.out.trans (q4.mono HB3.out.size))
  have Q1 := Lib.hid q1
  have Q2 := Lib.hid q2
  have Q3 := Lib.hid q3
  clear q1 q2 q3 q4
  have r1 : PsAt w4 v3 ps := (P1.out.next hB34.out).read (fun x hx => ((P2.out x hx).below hB34.out).forget (fun _ _ h => h.elim))
  have r2 : PsAt w4 v4 qs := Q1.out.read (fun x hx => (Q2.out x hx).forget (fun _ _ h => h.elim))
  have iP : InL L ps := fun x hx n hn => HSf.out.inn x.l (by rw [← P3.out]; exact List.mem_map.2 ⟨x, hx, rfl⟩) n hn
  have iQ : InL L qs := fun x hx n hn => HSg.out.inn x.l (by rw [← Q3.out]; exact List.mem_map.2 ⟨x, hx, rfl⟩) n hn
  have hpl : ps.length ≤ 200 := by have := HSf.out.few; rw [← P3.out, List.length_map] at this; exact this
  have hql : qs.length ≤ 200 := by have := HSg.out.few; rw [← Q3.out, List.length_map] at this; exact this
  obtain ⟨A3, c3, rfl⟩ := own_slice P1.out
  obtain ⟨A4, c4, rfl⟩ := own_slice Q1.out
  have hAn := gAnd ps qs L A3 A4 _ c3 _ c4 w4 r1 r2 HL.out H9.out iP iQ (by omega)
  have HAn := Lib.hid hAn
  clear hAn r1 r2 iP iQ
  go_wp2_with fail
  refine HAn.out.mono ?_
  rintro e w7 ⟨v7, r, ok, rfl, l1, m2, l2, l3, hrl, m5, m6⟩
  obtain ⟨A7, c7, rfl⟩ := own_slice l1
  have l6 : Below w.heap.size w w7 := HB4.out.trans (m6.mono HB4.out.size)
  have HB7 := Lib.hid l6
  cases ok
  · clear l1 m2 l2 l3 m5 m6 l6 hrl
    go_wp2_with fail
    refine (gAnswerNo _ _).mono ?_
    rintro e w8 ⟨rfl, h8⟩
    obtain rfl : w7 = w8 := h8.symm
    go_wp2_with fail
    exact bodyPost_ret (v := .tuple #[.slice none 0 0, .int .i64 4]) (by simp [results, Tryz.results152, go_sem]) rfl ⟨none, 0, [], 4, rfl, FmFrom.none _ _, FmIn.nil _, Or.inr ⟨rfl, rfl⟩, HB7.out⟩
  · have l4 : ∀ x ∈ r, PtOk w7 (fun _ => False) x := fun x hx => (m2 x hx).forget (fun _ _ h => h.elim)
    have l5 : ∀ on, holdsS (fmOf r) on = (holdsS f on && holdsS g on) := fun on => by rw [m5 rfl on, ← P3.out, ← Q3.out]
    have hr5 : PsAt w7 (.slice A7 r.length c7) r := l1.read l4
    have hans := gAnswer r A7 _ c7 w7 hr5 (by omega) (fun x hx => by have := up_le HL.out (l4 x hx).2.1.1 (l3 x hx); have := H9.out; omega)
    have HAns := Lib.hid hans
    have HIn2 : Hid (FmIn L (fmOf r)) := Lib.hid ⟨l2, fun p hp n hn => (by
      obtain ⟨x, hx, rfl⟩ := List.mem_map.1 hp
      exact l3 x hx n hn), by simp [fmOf]; exact hrl⟩
    have HHo := Lib.hid l5
    clear hans l1 l2 l3 l4 l5 l6 hr5 hrl m2 m5 m6
    go_wp2_with fail
    refine HAns.out.mono ?_
    rintro e w8 ⟨b8, rfl, k1, k2⟩
    have K1 := Lib.hid (k1.low (base' := w.heap.size) HB7.out.size)
    have HB8 := Lib.hid (HB7.out.trans (k2.mono HB7.out.size))
    clear k1 k2
    go_wp2_with fail
    have hlf : (fmOf r).length = r.length := by simp [fmOf]
    refine bodyPost_ret (v := .tuple #[.slice (some ⟨b8, 0, none⟩) r.length r.length, .int .i64 0]) (by simp [results, Tryz.results152, go_sem]) rfl ⟨some ⟨b8, 0, none⟩, r.length, fmOf r, 0, by rw [hlf], by rw [hlf]; exact K1.out, HIn2.out, Or.inl ⟨rfl, HHo.out⟩, HB8.out⟩

end Go.Proofs.YthifbaacmohmnaaGreat

/- package formula: Same; slices.IndexFunc of a formula. -/
namespace Go.Proofs.YthifbaacmohmnaaGreat
open Go.RowKit
set_option linter.unusedVariables false
set_option linter.unusedSimpArgs false

set_option maxRecDepth 100000 in
set_option maxHeartbeats 4000000 in
/-- The first part of which p holds, or -1. -/
theorem fIndexD (f : Fm) (p : List Int → Bool) (A : Option Addr) (n c : Nat) (w : World) (h : FmAt w (.slice A n c) f)
    (hcall : ∀ w', Below w.heap.size w w' → ∀ l A n c, IntsAt w' (.slice A n c) l → l ∈ f → Calls Tryz.prog 184 #[.slice A n c] w' fun e w'' => e = .returned (.bool (p l)) ∧ Below w'.heap.size w' w'') :
    Calls Tryz.prog 102 #[.slice A n c, .func (.func 184) #[] #[]] w fun e w' =>
      ∃ r : Int, e = .returned (.int .i64 r) ∧ ((r = -1 ∧ ∀ l ∈ f, p l = false) ∨ ∃ k : Nat, k < f.length ∧ r = k ∧ p (paAt f k) = true ∧ ∀ j, j < k → p (paAt f j) = false) ∧ Below w.heap.size w w' := by
  have HI := Lib.hid h
  have hm := h.max
  obtain rfl := h.len
  have HC := Lib.hid hcall
  have eg : ∀ args w, (callFunc 184 args).run Tryz.prog w = .ok (.enter 184 args) w := enters_of Tryz.func184 (by kernel_rfl) rfl
  clear h hcall
  go_enter Tryz.func102, Tryz.ntmps102
  go_wp2_with fail
  go_loopw [8] (fun v wr => ∃ i : Nat, i ≤ f.length ∧ v = .int .i64 i ∧ Hid (Below w.heap.size w wr) ∧ Hid (∀ j, j < i → p (paAt f j) = false)) (fun v _ => f.length - (intOf v).toNat)
  case atStart => exact ⟨0, Nat.zero_le _, rfl, Lib.hid (Below.refl _ _), Lib.hid (fun j hj => absurd hj (Nat.not_lt_zero _))⟩
  case round =>
    obtain ⟨i, hi, rfl, HB, HN⟩ := hrel
    by_cases hlt : i < f.length
    · have h1 : (0 : Int) ≤ (i : Int) := by omega
      have h2 : (i : Int) < (f.length : Int) := by omega
      obtain ⟨b, off, A2, c2, rfl, _, q1, hp⟩ := (HI.out.next HB.out).at i hlt
      have hcl := HC.out wr HB.out (paAt f i) A2 _ c2 hp (by rw [paAt_lt hlt]; exact List.getElem_mem hlt)
      obtain ⟨r, hr⟩ : ∃ r, p (paAt f i) = r := ⟨_, rfl⟩
      rw [hr] at hcl
      have HCl := Lib.hid hcl
      have HR := Lib.hid hr
      clear hcl hr hp
      cases r
      · go_wp2_with fail
        refine HCl.out.mono ?_
        rintro e w3 ⟨rfl, hb3⟩
        have HB3 := Lib.hid (HB.out.trans (hb3.mono HB.out.size))
        clear hb3
        go_wp2_with fail
        refine ⟨⟨i + 1, by omega, by go_num, HB3, Lib.hid (fun j hj => ?_)⟩, by simp [intOf]; omega⟩
        by_cases e : j = i
        · rw [e]; exact HR.out
        · exact HN.out j (by omega)
      · go_wp2_with fail
        refine HCl.out.mono ?_
        rintro e w3 ⟨rfl, hb3⟩
        have HB3 := Lib.hid (HB.out.trans (hb3.mono HB.out.size))
        clear hb3
        go_wp2_with fail
        go_ret
        exact ⟨_, rfl, .inr ⟨i, hlt, rfl, HR.out, HN.out⟩, HB3.out⟩
    · obtain rfl : i = f.length := by omega
      go_wp2_with fail
      go_ret
      refine ⟨_, rfl, .inl ⟨rfl, fun l hl => ?_⟩, HB.out⟩
      obtain ⟨j, hj, rfl⟩ := List.mem_iff_getElem.1 hl
      have := HN.out j hj
      rwa [paAt_lt hj] at this

set_option maxRecDepth 100000 in
set_option maxHeartbeats 4000000 in
/-- The first part of which p holds, or -1. -/
theorem fIndexH (f : Fm) (p : List Int → Bool) (bx : Value) (A : Option Addr) (n c : Nat) (w : World) (h : FmAt w (.slice A n c) f)
    (hcall : ∀ w', Below w.heap.size w w' → ∀ l A n c, IntsAt w' (.slice A n c) l → l ∈ f → Calls Tryz.prog 69 #[.slice A n c, bx] w' fun e w'' => e = .returned (.bool (p l)) ∧ Below w'.heap.size w' w'') :
    Calls Tryz.prog 102 #[.slice A n c, .func (.func 69) #[] #[bx]] w fun e w' =>
      ∃ r : Int, e = .returned (.int .i64 r) ∧ ((r = -1 ∧ ∀ l ∈ f, p l = false) ∨ ∃ k : Nat, k < f.length ∧ r = k ∧ p (paAt f k) = true ∧ ∀ j, j < k → p (paAt f j) = false) ∧ Below w.heap.size w w' := by
  have HI := Lib.hid h
  have hm := h.max
  obtain rfl := h.len
  have HC := Lib.hid hcall
  have eg : ∀ args w, (callFunc 69 args).run Tryz.prog w = .ok (.enter 69 args) w := enters_of Tryz.func69 (by kernel_rfl) rfl
  clear h hcall
  go_enter Tryz.func102, Tryz.ntmps102
  go_wp2_with fail
  go_loopw [8] (fun v wr => ∃ i : Nat, i ≤ f.length ∧ v = .int .i64 i ∧ Hid (Below w.heap.size w wr) ∧ Hid (∀ j, j < i → p (paAt f j) = false)) (fun v _ => f.length - (intOf v).toNat)
  case atStart => exact ⟨0, Nat.zero_le _, rfl, Lib.hid (Below.refl _ _), Lib.hid (fun j hj => absurd hj (Nat.not_lt_zero _))⟩
  case round =>
    obtain ⟨i, hi, rfl, HB, HN⟩ := hrel
    by_cases hlt : i < f.length
    · have h1 : (0 : Int) ≤ (i : Int) := by omega
      have h2 : (i : Int) < (f.length : Int) := by omega
      obtain ⟨b, off, A2, c2, rfl, _, q1, hp⟩ := (HI.out.next HB.out).at i hlt
      have hcl := HC.out wr HB.out (paAt f i) A2 _ c2 hp (by rw [paAt_lt hlt]; exact List.getElem_mem hlt)
      obtain ⟨r, hr⟩ : ∃ r, p (paAt f i) = r := ⟨_, rfl⟩
      rw [hr] at hcl
      have HCl := Lib.hid hcl
      have HR := Lib.hid hr
      clear hcl hr hp
      cases r
      · go_wp2_with fail
        refine HCl.out.mono ?_
        rintro e w3 ⟨rfl, hb3⟩
        have HB3 := Lib.hid (HB.out.trans (hb3.mono HB.out.size))
        clear hb3
        go_wp2_with fail
        refine ⟨⟨i + 1, by omega, by go_num, HB3, Lib.hid (fun j hj => ?_)⟩, by simp [intOf]; omega⟩
        by_cases e : j = i
        · rw [e]; exact HR.out
        · exact HN.out j (by omega)
      · go_wp2_with fail
        refine HCl.out.mono ?_
        rintro e w3 ⟨rfl, hb3⟩
        have HB3 := Lib.hid (HB.out.trans (hb3.mono HB.out.size))
        clear hb3
        go_wp2_with fail
        go_ret
        exact ⟨_, rfl, .inr ⟨i, hlt, rfl, HR.out, HN.out⟩, HB3.out⟩
    · obtain rfl : i = f.length := by omega
      go_wp2_with fail
      go_ret
      refine ⟨_, rfl, .inl ⟨rfl, fun l hl => ?_⟩, HB.out⟩
      obtain ⟨j, hj, rfl⟩ := List.mem_iff_getElem.1 hl
      have := HN.out j hj
      rwa [paAt_lt hj] at this

end Go.Proofs.YthifbaacmohmnaaGreat

/- package formula: awake (True, False, Atom, Holds of no numbers). -/
namespace Go.Proofs.YthifbaacmohmnaaGreat
open Go.RowKit
set_option linter.unusedVariables false
set_option linter.unusedSimpArgs false

set_option maxRecDepth 100000 in
set_option maxHeartbeats 4000000 in
theorem fContH (f : Fm) (p : List Int → Bool) (bx : Value) (A : Option Addr) (n c : Nat) (w : World) (h : FmAt w (.slice A n c) f)
    (hcall : ∀ w', Below w.heap.size w w' → ∀ l A n c, IntsAt w' (.slice A n c) l → l ∈ f → Calls Tryz.prog 69 #[.slice A n c, bx] w' fun e w'' => e = .returned (.bool (p l)) ∧ Below w'.heap.size w' w'') :
    Calls Tryz.prog 66 #[.slice A n c, .func (.func 69) #[] #[bx]] w fun e w' => e = .returned (.bool (f.any p)) ∧ Below w.heap.size w w' := by
  have HI := Lib.hid (fIndexH f p bx A n c w h hcall)
  clear h hcall
  go_enter Tryz.func66, Tryz.ntmps66
  go_wp2_with fail
  refine HI.out.mono ?_
  rintro e w1 ⟨r, rfl, hr, hb⟩
  have HB := Lib.hid hb
  clear hb
  rcases hr with ⟨rfl, h0⟩ | ⟨k, hk, rfl, h1, _⟩
  · have HE : Hid (f.any p = false) := Lib.hid (by rw [List.any_eq_false]; intro l hl; rw [h0 l hl]; simp)
    clear h0
    go_wp2_with fail
    go_ret
    exact ⟨by rw [HE.out]; rfl, HB.out⟩
  · have HE : Hid (f.any p = true) := Lib.hid (by rw [List.any_eq_true]; exact ⟨_, List.getElem_mem hk, by rw [← paAt_lt hk]; exact h1⟩)
    have h2 : (k : Int) ≥ 0 := by omega
    clear h1
    go_wp2_with fail
    go_ret
    exact ⟨by rw [HE.out]; rfl, HB.out⟩

end Go.Proofs.YthifbaacmohmnaaGreat
