/- package formula: with. -/
import Derived.Test.YtehokjaojanieaaFoF
namespace Go.Proofs.Ytehokjaojanieaa
open Go.RowKit
set_option linter.unusedVariables false
set_option linter.unusedSimpArgs false

/-- What 'with' answers: the parts of p with each of g's; or p alone. -/
def WithOk (p : Pt) (g ts : List Pt) : Prop :=
  (g.any (fun q => subS q.l p.l) = true ∧ ts = [p]) ∨ (g.any (fun q => subS q.l p.l) = false ∧ ts.length = g.length ∧ ∀ j (h : j < ts.length) (h' : j < g.length), (∀ x, x ∈ ts[j].l ↔ x ∈ p.l ∨ x ∈ g[j].l) ∧ ts[j].l.length ≤ p.l.length + g[j].l.length)

set_option maxRecDepth 100000 in
set_option maxHeartbeats 8000000 in
theorem fWith (p : Pt) (xs : List Pt) (A : Option Addr) (n c : Nat) (R : Nat → Prop) (w : World) (hp : PtOk w R p) (h : PsAt w (.slice A n c) xs) (hl : ∀ x ∈ p :: xs, x.l.length ≤ 1000000) (hn : xs.length ≤ 1000000) :
    Calls Try.prog 51 #[.agg #[p.v, .int .u64 p.m], .slice A n c] w fun e w' => ∃ v ts, e = .returned v ∧ Pts w' w.heap.size v ts ∧ (∀ t ∈ ts, PtOk w' (fun b => b < w.heap.size ∧ R b ∨ v.ownBlock = some b) t) ∧ WithOk p xs ts ∧ Below w.heap.size w w' := by
  have HI := Lib.hid h
  have HP := Lib.hid hp
  obtain ⟨hm, hm2, hm3⟩ := h.max
  obtain rfl := h.len
  have HL := Lib.hid hl
  have hB0 : Below w.heap.size w (w.alloc (.cells #[p.v, .int .u64 p.m] 50)) := (Below.refl _ _).alloc (Nat.le_refl _) _
  have hA0 : At (w.alloc (.cells #[p.v, .int .u64 p.m] 50)) w.heap.size 50 #[p.v, .int .u64 p.m] := At.new _ _ _
  obtain ⟨Ap, cp, hv, _⟩ := hp.1
  obtain ⟨pv, hpv⟩ : ∃ pv, p.v = pv := ⟨_, rfl⟩
  rw [hpv] at hv hB0 hA0 ⊢
  subst hv
  have HPv := Lib.hid hpv
  clear h hp hl hpv
  go_enter Try.func51, Try.ntmps51
  go_wp2_with fail
  generalize w.alloc (.cells #[.slice Ap p.l.length cp, .int .u64 p.m] 50) = W at hB0 hA0 ⊢
  have HB := Lib.hid hB0
  have HA := Lib.hid hA0
  have a0 := hA0.cell 0
  have a1 := hA0.cell 1
  clear hB0 hA0
  have hpW : PtOk W R p := HP.out.below HB.out
  have hone := (fHasOne p xs A _ c R W hpW (HI.out.next HB.out) (fun x hx => by have := HL.out x hx; omega))
  rw [HPv.out] at hone
  refine hone.mono ?_
  rintro e w1 ⟨rfl, hb1⟩
  have HB1 := Lib.hid (HB.out.trans (hb1.mono HB.out.size))
  have HA1 := Lib.hid (HA.out.below hb1 HA.out.lt)
  have hs1 : Hid (w.heap.size < w1.heap.size) := Lib.hid (Nat.lt_of_lt_of_le HA.out.lt hb1.size)
  have c0 := HA1.out.cell 0
  have c1 := HA1.out.cell 1
  have f0 := HA1.out.free 0
  have f1 := HA1.out.free 1
  obtain ⟨r, hr⟩ : ∃ r, xs.any (fun q => subS q.l p.l) = r := ⟨_, rfl⟩
  have HR := Lib.hid hr
  rw [hr]
  clear hr hone hpW hb1 a0 a1
  cases r
  · have hmk := make_parts xs.length (by omega)
    have hrow := made_parts w1 xs.length
    have hB2 := HB1.out.alloc HB1.out.size (.cells (madeCells partZero (xs.length * 2)) 50)
    have hA2 := HA1.out.alloc (.cells (madeCells partZero (xs.length * 2)) 50)
    go_wp2_with fail
    clear hmk c0 c1 f0 f1
    generalize w1.alloc (.cells (madeCells partZero (xs.length * 2)) 50) = W2 at hrow hB2 hA2 ⊢
    obtain ⟨g2, hg2⟩ : ∃ g2, g2 = w1.heap.size := ⟨_, rfl⟩
    have hs2 : Hid (w.heap.size < g2) := Lib.hid (by rw [hg2]; exact hs1.out)
    rw [← hg2] at hrow ⊢
    clear hg2
    go_loopw [18] (fun v wr => ∃ (i : Nat), i ≤ xs.length ∧ v = .int .i64 i ∧ Hid (Below w.heap.size w wr) ∧ Hid (At wr w.heap.size 50 #[.slice Ap p.l.length cp, .int .u64 p.m]) ∧
      Hid (∃ ts : List Pt, RowF wr g2 xs.length (fun j => ts[j]?) ∧ (∀ t ∈ ts, PtOk wr (fun b => b < w.heap.size ∨ b = g2) t) ∧ ts.length = i ∧ ∀ j (h : j < ts.length) (h' : j < xs.length), (∀ x, x ∈ ts[j].l ↔ x ∈ p.l ∨ x ∈ xs[j].l) ∧ ts[j].l.length ≤ p.l.length + xs[j].l.length)) (fun v _ => xs.length - (intOf v).toNat)
    case atStart => exact ⟨0, Nat.zero_le _, rfl, Lib.hid hB2, Lib.hid hA2, Lib.hid ⟨[], hrow.weaken (fun j x hx => by simp at hx), (fun t ht => by cases ht), rfl, fun j h => absurd h (Nat.not_lt_zero _)⟩⟩
    case round =>
      obtain ⟨i, hi, rfl, HB, HA, HT⟩ := hrel
      by_cases hlt : i < xs.length
      · have h1 : (0 : Int) ≤ (i : Int) := by omega
        have h2 : (i : Int) < (xs.length : Int) := by omega
        obtain ⟨g, x, rfl, _, hx, q0, q1, hxo⟩ := (HI.out.next HB.out).at i hlt
        have HX := Lib.hid hxo
        have HXi := Lib.hid hx
        obtain ⟨Ax, cx, hv, _⟩ := hxo.1
        obtain ⟨xv, hxv⟩ : ∃ xv, x.v = xv := ⟨_, rfl⟩
        rw [hxv] at hv q0
        subst hv
        have HXv := Lib.hid hxv
        clear hxo hx hxv
        have c0 := HA.out.cell 0
        have c1 := HA.out.cell 1
        have f0 := HA.out.free 0
        have f1 := HA.out.free 1
        have hsz := HA.out.lt
        have hmem : Hid (x ∈ p :: xs) := Lib.hid (List.mem_cons_of_mem _ (by rw [← (List.getElem?_eq_some_iff.1 HXi.out).2]; exact List.getElem_mem hlt))
        have hB1 : Hid (Below wr.heap.size wr (wr.alloc (.cells #[.slice Ax x.l.length cx, .int .u64 x.m] 50))) := Lib.hid ((Below.refl _ _).alloc (Nat.le_refl _) _)
        go_wp2_with fail
        have hbo := fBoth p x R (fun _ => False) (wr.alloc (.cells #[.slice Ax x.l.length cx, .int .u64 x.m] 50)) ((HP.out.below HB.out).below hB1.out) (HX.out.below hB1.out) (by have := HL.out p (by simp); have := HL.out x hmem.out; omega)
        rw [HPv.out, HXv.out] at hbo
        have HBo := Lib.hid hbo
        clear hbo c0 c1 f0 f1 q0 q1 hsz
        refine HBo.out.mono ?_
        rintro e w5 ⟨t5, rfl, k1, k2, k3, k4⟩
        obtain ⟨ts, a1, a2, a3, a4⟩ := HT.out
        have HB5 := Lib.hid (hB1.out.trans (k4.mono hB1.out.size))
        have a1' := Lib.hid (a1.next HB5.out)
        obtain ⟨u0, u1, d0, d1⟩ := a1'.out.there hlt
        have e0 := a1'.out.free (i * 2)
        have e1 := a1'.out.free (i * 2 + 1)
        obtain ⟨A5, c5, hv5, _⟩ := k1.1
        obtain ⟨v5, hv5'⟩ : ∃ v5, t5.v = v5 := ⟨_, rfl⟩
        rw [hv5'] at hv5 ⊢
        subst hv5
        have HV5 := Lib.hid hv5'
        have K1 := Lib.hid k1
        have K2 := Lib.hid k2
        have K3 := Lib.hid k3
        have HA2 := Lib.hid a2
        have HA3 := Lib.hid a3
        have HA4 := Lib.hid a4
        have hgl : Hid (g2 < wr.heap.size) := Lib.hid a1.lt
        clear k1 k2 k3 k4 a1 a2 a3 a4 hv5'
        go_wp2_with fail
        have hg := grown2 w5 g2 (i * 2) (i * 2 + 1) (.slice A5 t5.l.length c5) (.int .u64 t5.m)
        have HB6 : Below w.heap.size w w5 := HB.out.trans (HB5.out.mono HB.out.size)
        have hs2' := hs2.out
        have hgl' := hgl.out
        refine ⟨⟨i + 1, by omega, by go_num, Lib.hid ?_, Lib.hid ?_, Lib.hid ⟨ts ++ [t5], ?_, ?_, ?_, ?_⟩⟩, by simp [intOf]; omega⟩
        · exact (HB6.setCell (p := ⟨g2, i * 2, none⟩) (by show w.heap.size ≤ g2; omega) _).setCell (p := ⟨g2, i * 2 + 1, none⟩) (by show w.heap.size ≤ g2; omega) _
        · exact at_keep (HA.out.below HB5.out HA.out.lt) hg (fun e => by injection e with e; omega)
        · have := a1'.out.put hlt t5
          rw [HV5.out] at this
          exact this.weaken (pa_push HA3.out _)
        · intro t ht
          rcases List.mem_append.1 ht with h | h
          · exact ((HA2.out t h).below HB5.out).grown hg (fun k e => by injection e with e; exact Or.inr e.symm)
          · rw [List.mem_singleton.1 h]
            refine (K1.out.forget (R' := fun b => b < w.heap.size ∨ b = g2) (fun b _ h => ?_)).grown hg (fun k e => by injection e with e; exact Or.inr e.symm)
            have := hB1.out.size
            have := HB.out.size
            rcases h with h | h <;> omega
        · rw [List.length_append, HA3.out]; rfl
        · intro j hj hj'
          by_cases e : j < ts.length
          · rw [List.getElem_append_left e]; exact HA4.out j e hj'
          · have ej : j = i := by have := HA3.out; simp at hj; omega
            subst ej
            have e2 : (ts ++ [t5])[j] = t5 := by
              rw [List.getElem_append_right (by omega)]; simp
            have e3 : xs[j] = x := (List.getElem?_eq_some_iff.1 HXi.out).2
            rw [e2, e3]
            exact ⟨K2.out, K3.out⟩
      · obtain rfl : i = xs.length := by omega
        go_wp2_with fail
        go_ret
        obtain ⟨ts, a1, a2, a3, a4⟩ := HT.out
        have hown := a1.own (base := w.heap.size) ts (fun j h => List.getElem?_eq_getElem h) (by omega) (by unfold maxLen; omega) (by have := hs2.out; omega)
        rw [a3] at hown
        refine ⟨_, ts, rfl, hown, fun t ht => (a2 t ht).forget (fun b _ h => ?_), .inr ⟨HR.out, a3, a4⟩, HB.out⟩
        rcases h with h | h
        · exact .inl h.1
        · injection h with h; exact .inr h.symm
  · go_wp2_with fail
    go_ret
    have hpW : PtOk w1 R p := HP.out.below HB1.out
    have hb : Below w1.heap.size w1 (w1.alloc (.cells #[.slice Ap p.l.length cp, .int .u64 p.m] 50)) := (Below.refl _ _).alloc (Nat.le_refl _) _
    refine ⟨_, [p], rfl, ?_, ?_, .inl ⟨HR.out, rfl⟩, HB1.out.trans (hb.mono HB1.out.size)⟩
    · refine ⟨rfl, .inr ⟨w1.heap.size, 1, _, rfl, by have := hs1.out; omega, At.new w1 50 #[.slice Ap p.l.length cp, .int .u64 p.m], Nat.le_refl _, by decide, rfl, ?_⟩⟩
      show [Value.slice Ap p.l.length cp, .int .u64 p.m] = [p.v, .int .u64 p.m]
      rw [HPv.out]
    · intro t ht
      rw [List.mem_singleton.1 ht]
      have hBt := HB1.out.trans (hb.mono HB1.out.size)
      refine HP.out.kept hBt.size (fun b _ hb => hBt.block b hb) (fun b hb' h => ?_)
      rcases h with h | h
      · exact h.2
      · injection h with h
        have := hs1.out
        dsimp only at h
        omega

end Go.Proofs.Ytehokjaojanieaa
