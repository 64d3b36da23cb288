/- package formula: and. -/
import Derived.Test.YtehokjaojanieaaFoJ
import Derived.Test.YtehokjaojanieaaFmSperner
namespace Go.Proofs.Ytehokjaojanieaa
open Go.RowKit
set_option linter.unusedVariables false
set_option linter.unusedSimpArgs false

/-- What a row of parts is, all of whose numbers are in L. -/
def InL (L : List Int) (xs : List Pt) : Prop := ∀ x ∈ xs, ∀ n ∈ x.l, n ∈ L
abbrev fmOf (xs : List Pt) : Fm := xs.map (·.l)
theorem fmOf_app (a b : List Pt) : fmOf (a ++ b) = fmOf a ++ fmOf b := List.map_append
theorem up_le {L : List Int} (hL : Up L) {p : List Int} (hp : Up p) (h : ∀ n ∈ p, n ∈ L) : p.length ≤ L.length := (up_sub L p hp hL h).length_le
theorem holds_cons (p : List Int) (f : Fm) (on : List Int) : holdsS (p :: f) on = (partS p on || holdsS f on) := by unfold holdsS; rw [List.any_cons]
theorem holds_app (f g : Fm) (on : List Int) : holdsS (f ++ g) on = (holdsS f on || holdsS g on) := by unfold holdsS; rw [List.any_append]
/-- What p with each of g is. -/
theorem with_holds {p : Pt} {gs ts : List Pt} (h : WithOk p gs ts) (on : List Int) : holdsS (fmOf ts) on = (partS p.l on && holdsS (fmOf gs) on) := by
  rcases h with ⟨ha, rfl⟩ | ⟨_, hl, ht⟩
  · obtain ⟨q, hq, e⟩ := List.any_eq_true.1 ha
    rw [Bool.eq_iff_iff, Bool.and_eq_true, holds_iff, holds_iff, part_iff]
    constructor
    · rintro ⟨x, hx, e2⟩
      have : x = p.l := by simpa using hx
      subst this
      exact ⟨e2, q.l, List.mem_map.2 ⟨q, hq, rfl⟩, fun z hz => e2 z (sub_iff.1 e z hz)⟩
    · rintro ⟨e2, _⟩
      exact ⟨p.l, by simp, e2⟩
  · rw [Bool.eq_iff_iff, Bool.and_eq_true, holds_iff, holds_iff, part_iff]
    constructor
    · rintro ⟨x, hx, e2⟩
      obtain ⟨t, htm, rfl⟩ := List.mem_map.1 hx
      obtain ⟨j, hj, rfl⟩ := List.mem_iff_getElem.1 htm
      obtain ⟨h1, _⟩ := ht j hj (by omega)
      exact ⟨fun z hz => e2 z ((h1 z).2 (.inl hz)), gs[j].l, List.mem_map.2 ⟨_, List.getElem_mem (by omega), rfl⟩, fun z hz => e2 z ((h1 z).2 (.inr hz))⟩
    · rintro ⟨e2, x, hx, e3⟩
      obtain ⟨q, hq, rfl⟩ := List.mem_map.1 hx
      obtain ⟨j, hj, rfl⟩ := List.mem_iff_getElem.1 hq
      obtain ⟨h1, _⟩ := ht j (by omega) hj
      refine ⟨ts[j].l, List.mem_map.2 ⟨_, List.getElem_mem (by omega), rfl⟩, fun z hz => ?_⟩
      rcases (h1 z).1 hz with h | h
      · exact e2 z h
      · exact e3 z h
theorem with_in {p : Pt} {gs ts : List Pt} {L : List Int} (h : WithOk p gs ts) (hp : ∀ n ∈ p.l, n ∈ L) (hg : InL L gs) : InL L ts := by
  rcases h with ⟨_, rfl⟩ | ⟨_, hl, ht⟩
  · intro x hx n hn
    rw [List.mem_singleton.1 hx] at hn; exact hp n hn
  · intro x hx n hn
    obtain ⟨j, hj, rfl⟩ := List.mem_iff_getElem.1 hx
    rcases ((ht j hj (by omega)).1 n).1 hn with h | h
    · exact hp n h
    · exact hg _ (List.getElem_mem (by omega)) n h
theorem with_len {p : Pt} {gs ts : List Pt} (h : WithOk p gs ts) : ts.length ≤ gs.length + 1 := by
  rcases h with ⟨_, rfl⟩ | ⟨_, hl, _⟩
  · simp
  · omega
/-- Of few numbers there are few formed parts. -/
theorem few_most {L : List Int} (hL : Up L) (h9 : L.length ≤ 9) {xs : List Pt} (hx : InL L xs) : ∀ r : Fm, Fmd r → (∀ p ∈ r, ∃ x ∈ xs, x.l = p) → r.length ≤ 200 := by
  intro r hr hp
  have := fm_few hr hL h9 (fun p h n hn => by
    obtain ⟨x, hx', e⟩ := hp p h
    rw [← e] at hn
    exact hx x hx' n hn)
  omega
theorem fm_len {L : List Int} (hL : Up L) (h9 : L.length ≤ 9) {xs : List Pt} (hx : InL L xs) (h : Fmd (fmOf xs)) : xs.length ≤ 126 := by
  have := fm_few h hL h9 (fun p hp n hn => by
    obtain ⟨x, hx', rfl⟩ := List.mem_map.1 hp
    exact hx x hx' n hn)
  simpa using this
theorem least_in {L : List Int} {xs r : List Pt} (h : LeastOf xs r) (hx : InL L xs) : InL L r := fun p hp n hn => by
  obtain ⟨x, hx', e⟩ := h.2.1 p hp
  rw [← e] at hn
  exact hx x hx' n hn

set_option maxRecDepth 100000 in
set_option maxHeartbeats 8000000 in
theorem fAnd (fs gs : List Pt) (L : List Int) (A B : Option Addr) (n c m d : Nat) (w : World) (hf : PsAt w (.slice A n c) fs) (hg : PsAt w (.slice B m d) gs) (hL : Up L) (h9 : L.length ≤ 9) (hfL : InL L fs) (hgL : InL L gs) (hgl : gs.length ≤ 1000) :
    Calls Try.prog 28 #[.slice A n c, .slice B m d] w fun e w' => ∃ v r, e = .returned (.tuple #[v, .bool true]) ∧ Pts w' w.heap.size v r ∧ (∀ x ∈ r, PtOk w' (fun b => v.ownBlock = some b) x) ∧ Fmd (fmOf r) ∧ InL L r ∧ (∀ on, holdsS (fmOf r) on = (holdsS (fmOf fs) on && holdsS (fmOf gs) on)) ∧ Below w.heap.size w w' := by
  have HF := Lib.hid hf
  have HGs := Lib.hid hg
  obtain ⟨hm, hm2, hm3⟩ := hf.max
  obtain rfl := hf.len
  have hL' := Lib.hid hL
  have h9' := Lib.hid h9
  have hfL' := Lib.hid hfL
  have hgL' := Lib.hid hgL
  have hgl' := Lib.hid hgl
  clear hf hg hL h9 hfL hgL hgl
  go_enter Try.func28, Try.ntmps28
  go_wp2_with fail
  go_loopw [6, 11] (fun u v wr => ∃ (i : Nat), i ≤ fs.length ∧ v = .int .i64 i ∧ Hid (∃ ss : List Pt, Pts wr w.heap.size u ss ∧ (∀ x ∈ ss, PtOk wr (fun b => u.ownBlock = some b) x) ∧ Fmd (fmOf ss) ∧ InL L ss ∧ ∀ on, holdsS (fmOf ss) on = (holdsS (fmOf (fs.take i)) on && holdsS (fmOf gs) on)) ∧ Hid (Below w.heap.size w wr)) (fun _ v _ => fs.length - (intOf v).toNat)
  case atStart => exact ⟨0, Nat.zero_le _, rfl, Lib.hid ⟨[], Pts.nil _ _, (fun x hx => by cases hx), least_nil.1, (fun x hx => by cases hx), fun on => by simp [fmOf, holdsS]⟩, Lib.hid (Below.refl _ _)⟩
  case round =>
    obtain ⟨i, hi, rfl, HS, HB⟩ := hrel
    by_cases hlt : i < fs.length
    · have h1 : (0 : Int) ≤ (i : Int) := by omega
      have h2 : (i : Int) < (fs.length : Int) := by omega
      obtain ⟨g, x, rfl, _, hx, q0, q1, hxo⟩ := (HF.out.next HB.out).at i hlt
      have hbase := HB.out.size
      have hxo2 : PtOk w (fun b => w.heap.size ≤ b) x := (HF.out.2 x (by rw [← (List.getElem?_eq_some_iff.1 hx).2]; exact List.getElem_mem hlt)).forget (fun b hb h => by omega)
      have HXo := Lib.hid (hxo2.below HB.out)
      have HXi := Lib.hid hx
      have HXl : Hid (∀ n ∈ x.l, n ∈ L) := Lib.hid (hfL'.out x (by rw [← (List.getElem?_eq_some_iff.1 hx).2]; exact List.getElem_mem hlt))
      obtain ⟨Ax, cx, hv, _⟩ := hxo.1
      obtain ⟨xv, hxv⟩ : ∃ xv, x.v = xv := ⟨_, rfl⟩
      rw [hxv] at hv q0
      subst hv
      have HXv := Lib.hid hxv
      have HBs := Lib.hid hbase
      clear hxo hxo2 hx hxv hbase
      have hBa : Hid (Below wr.heap.size wr (wr.alloc (.cells #[.slice Ax x.l.length cx, .int .u64 x.m] 50))) := Lib.hid ((Below.refl _ _).alloc (Nat.le_refl _) _)
      go_wp2_with fail
      have hup9 : ∀ y ∈ x :: gs, y.l.length ≤ 1000000 := fun y hy => by
        have h9 := h9'.out
        rcases List.mem_cons.1 hy with rfl | hy
        · have := up_le hL'.out HXo.out.2.1.1 HXl.out; omega
        · have := up_le hL'.out (HGs.out.2 y hy).2.1.1 (hgL'.out y hy); omega
      have hW := fWith x gs B m d (fun b => w.heap.size ≤ b) (wr.alloc (.cells #[.slice Ax x.l.length cx, .int .u64 x.m] 50)) (HXo.out.below hBa.out) (HGs.out.next (HB.out.trans (hBa.out.mono HBs.out))) hup9 (by have := hgl'.out; omega)
      rw [HXv.out] at hW
      have HW := Lib.hid hW
      clear hW hup9 q0 q1
      refine HW.out.mono ?_
      rintro e w5 ⟨v2, ts, rfl, t1, t2, t3, t4⟩
      obtain ⟨ss, s1, s2, s3, s4, s5⟩ := HS.out
      have hb5 : Below wr.heap.size wr w5 := hBa.out.trans (t4.mono hBa.out.size)
      have htl := with_len t3
      have hsl := fm_len hL'.out h9'.out s4 s3
      have hgl := hgl'.out
      have s1' := s1.next hb5
      have hread : PsAt w5 v2 ts := t1.read (fun t ht => (t2 t ht).forget (fun _ _ h => h.elim))
      obtain ⟨ti, hti, htz, hts, htb⟩ := info_parts info_part
      obtain ⟨v6, w6, hr6, o1, o2, o3⟩ := append_src (T := 44) (E := 50) Try.underlying44 hti htz hts htb rfl (by decide) (by decide) w5 w.heap.size _ ss.length _ v2 ts.length _ 44 s1' (Nat.le_trans HBs.out hb5.size) hread.src (by omega)
      have o1' : Pts w6 w.heap.size v6 (ss ++ ts) := by
        unfold Pts
        rw [List.length_append, List.flatMap_append]; exact o1
      have hlow := World.ownsRow.lt s1'
      have hlow0 := World.ownsRow.lt s1
      have hok : ∀ y ∈ ss ++ ts, PtOk w6 (fun b => v6.ownBlock = some b) y := by
        intro y hy
        rcases List.mem_append.1 hy with h | h
        · have h5 := (s2 y h).below hb5
          refine (h5.kept (w' := w6) (R' := fun b => v6.ownBlock = some b) o2.size (fun b hb hlt => o2.block b hlt (fun e => hb e.symm)) (fun b hb e => ?_))
          rcases o3 with o | o
          · rw [← o]; exact e
          · rw [o] at e; injection e with e; omega
        · have h5 := t2 y h
          refine h5.kept (w' := w6) (R' := fun b => v6.ownBlock = some b) o2.size (fun b hb hlt => o2.block b hlt (fun e => hb (.inl ?_))) (fun b hb e => ?_)
          · have := hlow0 b e.symm
            exact ⟨Nat.lt_of_lt_of_le this.2 hBa.out.size, this.1⟩
          · rcases o3 with o | o
            · rw [o] at e
              have := hlow0 b e
              exact .inl ⟨Nat.lt_of_lt_of_le this.2 hBa.out.size, this.1⟩
            · rw [o] at e; injection e with e; omega
      have hin : InL L (ss ++ ts) := fun y hy => by
        rcases List.mem_append.1 hy with h | h
        · exact s4 y h
        · exact with_in t3 HXl.out hgL'.out y h
      have hLe := fLeast (ss ++ ts) 200 v6 w.heap.size w6 o1' hok (by rw [List.length_append]; omega) (fun y hy => by have := up_le hL'.out (hok y hy).2.1.1 (hin y hy); have := h9'.out; omega) (by omega) (few_most hL'.out h9'.out hin)
      have HLe := Lib.hid hLe
      have HR6 := Lib.hid hr6
      have HB5 := Lib.hid hb5
      have HO2 := Lib.hid o2
      have HLow := Lib.hid hlow
      have HIn := Lib.hid hin
      have HOk := Lib.hid hok
      have HS5 := Lib.hid s5
      have HT3 := Lib.hid t3
      clear hLe hr6 hb5 o1 o1' o2 o3 hlow hlow0 hin hok s1 s1' s2 s3 s4 s5 t1 t2 t3 t4 hread hti htz hts htb htl hsl hgl
      go_wp2_with (first | (at_builtin; refine Lib.wpList_append_run _ rfl _ _ _ _ rfl _ _ rfl rfl v6 w6 HR6.out ?_) | fail)
      refine HLe.out.mono ?_
      rintro e w7 ⟨v7, r, rfl, l1, ⟨l2, l3⟩, l4, l5⟩
      have hrl := fm_len hL'.out h9'.out (least_in l4 HIn.out) l4.1
      have hv7 : ∃ A7 c7, v7 = .slice A7 r.length c7 := by
        rcases l1.row with ⟨rfl, rfl⟩ | ⟨g7, cap7, rfl, _⟩
        · exact ⟨_, _, rfl⟩
        · exact ⟨_, _, rfl⟩
      obtain ⟨A7, c7, rfl⟩ := hv7
      have hle : ¬ ((r.length : Int) > 200) := by omega
      have HB7 : Hid (Below w.heap.size w w7) := Lib.hid (by
        have hb6 : Below w.heap.size w w6 := below_gr (HB.out.trans (HB5.out.mono HBs.out)) (Nat.le_trans HBs.out HB5.out.size) HO2.out (fun k e => (HLow.out k e).1)
        exact below_gr hb6 hb6.size l5 (fun k e => by rw [← l2] at e; exact (World.ownsRow.lt l1 k e).1))
      have L1 := Lib.hid l1
      have L3 := Lib.hid l3
      have L4 := Lib.hid l4
      have L2 := Lib.hid l2
      clear l1 l2 l3 l4 l5 hrl
      go_wp2_with fail
      refine ⟨⟨i + 1, by omega, by go_num, Lib.hid ⟨r, L1.out, ?_, L4.out.1, least_in L4.out HIn.out, fun on => ?_⟩, HB7⟩, by simp [intOf]; omega⟩
      · intro y hy
        exact L3.out (fun b => (Value.slice A7 r.length c7).ownBlock = some b) (fun b e => by rw [L2.out]; exact e) (fun z hz => (HOk.out z hz).forget (fun b _ e => by rw [← L2.out]; exact e)) y hy
      · have e1 : fmOf [x] = [x.l] := rfl
        rw [L4.out.holds on]
        show holdsS (fmOf (ss ++ ts)) on = _
        rw [fmOf_app, holds_app, HS5.out on, with_holds HT3.out on, take_step fs i hlt, fmOf_app, holds_app, (List.getElem?_eq_some_iff.1 HXi.out).2, e1, holds_one]
        cases holdsS (fmOf (fs.take i)) on <;> cases partS x.l on <;> cases holdsS (fmOf gs) on <;> rfl
    · obtain rfl : i = fs.length := by omega
      go_wp2_with fail
      obtain ⟨ss, s1, s2, s3, s4, s5⟩ := HS.out
      exact bodyPost_ret (v := .tuple #[_, .bool true]) (by simp [results, Try.results28, go_sem]) rfl ⟨_, ss, rfl, s1, s2, s3, s4, (fun on => by rw [s5 on, List.take_length]), HB.out⟩

end Go.Proofs.Ytehokjaojanieaa
