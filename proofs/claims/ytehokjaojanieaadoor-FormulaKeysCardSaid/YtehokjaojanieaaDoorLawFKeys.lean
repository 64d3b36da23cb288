/- bolterlaw11.FormulaKeys (a Door seat), by what a formula package does. -/
import Derived.Test.YtehokjaojanieaaDoorFmFew
import Derived.Lib.AppendIntMem
import Derived.Lib.ItoaNum
namespace Go.Proofs.YtehokjaojanieaaDoor
open Go.RowKit
set_option linter.unusedVariables false
set_option linter.unusedSimpArgs false

/-- The library's table of powers of ten lies in its variable. -/
def PTab (w : World) : Prop := Lib.TabIs Tryd.prog w "internal/strconv.uint64pow10" .u64 Lib.pow10Tab
theorem PTab.next {w w' : World} (h : PTab w) (hb : Below w.heap.size w w') : PTab w' := (Lib.tabBelow_of_tabIs h) w' hb
/-- What a formula package does, as far as keys: K is the text of a formula. -/
structure KeySpec (K : Fm → ByteArray) : Prop where
  awake : ∀ w : World, Calls Tryd.prog 4 #[] w fun e w' => e = .returned (.bool true) ∧ Below w.heap.size w w'
  same : ∀ {w : World} {A B : Option Addr} {n c m d : Nat} {f g : Fm}, FmAt w (.slice A n c) f → FmAt w (.slice B m d) g → Calls Tryd.prog 7 #[.slice A n c, .slice B m d] w fun e w' => e = .returned (.bool (decide (f = g))) ∧ Below w.heap.size w w'
  key : ∀ {w : World} {A : Option Addr} {n c : Nat} {f : Fm}, PTab w → FmAt w (.slice A n c) f → f.flatten.length ≤ 300 → f.length ≤ 300 → Calls Tryd.prog 8 #[.slice A n c] w fun e w' => e = .returned (.string (K f)) ∧ Below w.heap.size w w'
  inj : ∀ {f g : Fm}, fmS f = true → fmS g = true → K f = K g → f = g
theorem wpList_append_want {P : Program} {ops : Array Oper} {rest : List Oper} {o : Oper} {a : Act} {w : World} {Q : Exit → Act → World → Prop} (hw : Region.wanted o (yielded ops a.tmps) = true) (s x : Operand) (t : TypeId) (ho : o.op = .call { callee := .builtin .append, args := #[s, x], argTypes := #[t, t] }) (v1 v2 : Value) (hs : a.eval s = v1) (hx : a.eval x = v2) {R : Value → World → Prop}
    (hrun : ∃ v w', (Builtin.append_ #[t, t] o.type #[v1, v2]).run P w = .ok v w' ∧ R v w') (h : ∀ v w', R v w' → wpList P ops Q rest (a.put o.dst v) w') : wpList P ops Q (o :: rest) a w :=
  wpList_step fun K hK => by
    rw [if_pos hw]
    obtain ⟨v, w', hr, hR⟩ := hrun
    have he : (execOp a.eval o).run P w = .ok (.value v) w' := by
      unfold execOp
      simp only [ho, resolve, invoke, builtin, Sem.run_bind, Sem.run_pure, Result.andThen_ok, List.map_toArray, List.map_cons, List.map_nil, hs, hx, hr]
    unfold Oper.wp
    rw [he]
    exact hK _ _ (h v w' hR)
/-- The values that a formula's row holds. -/
theorem fm_vals {w : World} {A : Option Addr} {n c : Nat} {f : Fm} (h : FmAt w (.slice A n c) f) (hA : A = none → c = 0) : ∃ us, ValsAt w (.slice A n c) us ∧ FmVals w us f := by
  obtain rfl := h.len
  obtain ⟨A', c', e, h2, h3, h4⟩ := id h
  injection e with e1 e2 e3
  subst e1 e3
  clear e2
  by_cases h0 : 0 < f.length
  · obtain ⟨b, off, rfl, hlt, hr⟩ := h4 h0
    have hat : ∀ j, j < f.length → ∃ u, w.cell? ⟨b, off + j, none⟩ = some u ∧ IntsAt w u (paAt f j) := hr
    refine ⟨(List.range f.length).map (fun j => (w.cell? ⟨b, off + j, none⟩).getD undef), ⟨_, c, by simp, hA, by simpa using ⟨h2, h3⟩, fun _ => ⟨b, off, rfl, hlt, fun j hj => ?_⟩⟩, by simp, fun u hu => ?_, fun j hj => ?_⟩
    · obtain ⟨u, hu, _⟩ := hat j (by simpa using hj)
      simp [hu]
    · obtain ⟨j, hj, rfl⟩ := List.mem_map.1 hu
      obtain ⟨u, hu, hi⟩ := hat j (List.mem_range.1 hj)
      obtain ⟨A2, c2, rfl, _⟩ := hi
      simp [hu, Value.oneCell']
    · obtain ⟨u, hu, hi⟩ := hat j (by simpa using hj)
      simpa [hu] using hi
  · have hf : f = [] := List.eq_nil_of_length_eq_zero (by omega)
    subst hf
    exact ⟨[], ValsAt.zero w A c hA h3, rfl, (fun u hu => by cases hu), (fun j hj => absurd hj (Nat.not_lt_zero _))⟩
theorem run_form0 (w : World) : (Instr.buildSlice 23 0 #[]).run Tryd.prog w = .ok (.slice (some ⟨w.heap.size, 0, none⟩) 0 0) (w.alloc (.cells #[] 32)) := by kernel_rfl

set_option maxRecDepth 100000 in
set_option maxHeartbeats 16000000 in
theorem lawFKeys {K : Fm → ByteArray} (S : KeySpec K) (f g : Fm) (A B : Option Addr) (n c m d : Nat) (w : World) (hf : FmAt w (.slice A n c) f) (hg : FmAt w (.slice B m d) g) (hfs : FmFit f) (hgs : FmFit g) (hA : A = none → c = 0) (hT : PTab w) :
    Calls Tryd.prog 3 #[.slice A n c, .slice B m d] w fun e w' => e = .returned (.bool true) ∧ Below w.heap.size w w' := by
  have HF := Lib.hid hf
  have HG := Lib.hid hg
  obtain rfl := hf.len
  obtain rfl := hg.len
  have HFs := Lib.hid hfs
  have HGs := Lib.hid hgs
  have HA := Lib.hid hA
  have HT := Lib.hid hT
  clear hf hg hfs hgs hA hT
  obtain ⟨i0, hi0, hz0, hz1, hz2⟩ := info_parts info_fms
  go_enter Tryd.func3, Tryd.ntmps3
  go_wp2_with fail
  refine (S.awake w).mono ?_
  rintro e w1 ⟨rfl, hb1⟩
  have HB1 := Lib.hid hb1
  clear hb1
  go_wp2_with fail
  refine (lawFew11 f g A B _ c _ d w1 (HF.out.next HB1.out) (HG.out.next HB1.out) HFs.out HGs.out).mono ?_
  rintro e w2 ⟨bf, rfl, hfew, hb2⟩
  have HB2 := Lib.hid (HB1.out.trans (hb2.mono HB1.out.size))
  have HFw := Lib.hid hfew
  clear hb2 hfew
  cases bf
  · go_wp2_with fail
    refine (S.awake w2).mono ?_
    rintro e w3 ⟨rfl, hb3⟩
    have HB3 := Lib.hid (HB2.out.trans (hb3.mono HB2.out.size))
    clear hb3
    go_wp2_with fail
    go_ret
    exact ⟨rfl, HB3.out⟩
  go_wp2_with fail
  refine (refSame9 f g A B _ c _ d w2 (HF.out.next HB2.out) (HG.out.next HB2.out)).mono ?_
  rintro e w3 ⟨rfl, q3, rfl⟩
  have HB3 := Lib.hid (below_dn HB2.out q3)
  obtain ⟨wa, hwa⟩ : ∃ wa, wa = w2.drewN q3 := ⟨_, rfl⟩
  rw [← hwa] at HB3 ⊢
  clear hwa
  obtain ⟨sm, hsm⟩ : ∃ b, decide (f = g) = b := ⟨_, rfl⟩
  have HSm := Lib.hid hsm
  rw [hsm]
  clear hsm
  have hss : (sm != sm) = false := by cases sm <;> rfl
  go_wp2_with fail
  refine (S.same (HF.out.next HB3.out) (HG.out.next HB3.out)).mono ?_
  rintro e w4 ⟨rfl, hb4⟩
  rw [HSm.out]
  have HB4 := Lib.hid (HB3.out.trans (hb4.mono HB3.out.size))
  clear hb4
  have HFb : Hid (f.flatten.length ≤ 300 ∧ f.length ≤ 300) := Lib.hid (by have := HFw.out (by simp); omega)
  have HGb : Hid (g.flatten.length ≤ 300 ∧ g.length ≤ 300) := Lib.hid (by have := HFw.out (by simp); omega)
  go_wp2_with fail
  refine (S.key (HT.out.next HB4.out) (HF.out.next HB4.out) HFb.out.1 HFb.out.2).mono ?_
  rintro e w5 ⟨rfl, hb5⟩
  have HB5 := Lib.hid (HB4.out.trans (hb5.mono HB4.out.size))
  clear hb5
  obtain ⟨us, hv, hu⟩ := fm_vals (HF.out.next HB5.out) HA.out
  have hba : Below w5.heap.size w5 (w5.alloc (Obj.cells #[] 32)) := (Below.refl _ _).alloc (Nat.le_refl _) _
  have HV := Lib.hid (hv.next hba)
  have HU := Lib.hid (hu.next hba)
  have HU5 := Lib.hid hu
  have HBa := Lib.hid (HB5.out.trans (hba.mono HB5.out.size))
  have HE : Hid (VRow (w5.alloc (Obj.cells #[] 32)) w5.heap.size 32 (.slice (some ⟨w5.heap.size, 0, none⟩) 0 0) []) := Lib.hid (VRow.empty (At.new _ _ _) (Nat.le_refl _))
  have hul : us.length = f.length := hu.1
  have HUl := Lib.hid hul
  clear hv hu hba hul
  go_wp2_with (first
    | (at_builtin
       refine wpList_append_want (by rfl) _ _ 23 rfl _ _ rfl rfl (append_vals (E := 32) Tryd.underlying23 hi0 hz0 hz1 hz2 rfl (by decide) _ w5.heap.size _ [] us A _ c _ HE.out (by simp) HV.out HU.out.2.1 ?cl) ?_
       case cl => have := HUl.out; have := HFb.out.2; simp; omega
       rintro v6 w6 ⟨h6, hg6⟩)
    | fail)
  have HB6 : Hid (Below w.heap.size w w6) := Lib.hid (below_gr HBa.out HBa.out.size hg6 (fun q hq => by have e : w5.heap.size = q := Option.some.inj hq; have := HB5.out.size; omega))
  have h66 := h6.vals
  rw [List.nil_append] at h66
  have hk6 : Below w5.heap.size w5 w6 := below_gr ((Below.refl _ _).alloc (Nat.le_refl _) _) (by simp) hg6 (fun q hq => by have e : w5.heap.size = q := Option.some.inj hq; omega)
  have HU6 : Hid (FmVals w6 us f) := Lib.hid (by
    exact ⟨HU.out.1, HU.out.2.1, fun j hj => (HU5.out.2.2 j hj).next hk6⟩)
  have hf6 := vals_fm h66 HU6.out
  obtain ⟨A6, c6, rfl, _⟩ := id hf6
  have HF6 := Lib.hid hf6
  clear h6 hg6 h66 hk6 hf6
  go_wp2_with fail
  refine (S.key (HT.out.next HB6.out) HF6.out HFb.out.1 HFb.out.2).mono ?_
  rintro e w7 ⟨rfl, hb7⟩
  have HB7 := Lib.hid (HB6.out.trans (hb7.mono HB6.out.size))
  clear hb7
  obtain ⟨kf, hkf⟩ : ∃ k, K f = k := ⟨_, rfl⟩
  have HKf := Lib.hid hkf
  rw [hkf]
  clear hkf
  go_wp2_with fail
  refine (refFormed9 f A _ c w7 (HF.out.next HB7.out)).mono ?_
  rintro e w8 ⟨rfl, hb8⟩
  have HB8 := Lib.hid (HB7.out.trans (hb8.mono HB7.out.size))
  clear hb8
  obtain ⟨bF, hbF⟩ : ∃ b, fmS f = b := ⟨_, rfl⟩
  have HbF := Lib.hid hbF
  rw [hbF]
  clear hbF
  cases bF
  · go_wp2_with fail
    go_ret
    exact ⟨rfl, HB8.out⟩
  go_wp2_with fail
  refine (refFormed9 g B _ d w8 (HG.out.next HB8.out)).mono ?_
  rintro e w9 ⟨rfl, hb9⟩
  have HB9 := Lib.hid (HB8.out.trans (hb9.mono HB8.out.size))
  clear hb9
  obtain ⟨bG, hbG⟩ : ∃ b, fmS g = b := ⟨_, rfl⟩
  have HbG := Lib.hid hbG
  rw [hbG]
  clear hbG
  cases bG
  · go_wp2_with fail
    go_ret
    exact ⟨rfl, HB9.out⟩
  go_wp2_with fail
  refine (S.key (HT.out.next HB9.out) (HF.out.next HB9.out) HFb.out.1 HFb.out.2).mono ?_
  rintro e wb ⟨rfl, hbb⟩
  have HBb := Lib.hid (HB9.out.trans (hbb.mono HB9.out.size))
  clear hbb
  go_wp2_with fail
  refine (S.key (HT.out.next HBb.out) (HG.out.next HBb.out) HGb.out.1 HGb.out.2).mono ?_
  rintro e wc ⟨rfl, hbc⟩
  have HBc := Lib.hid (HBb.out.trans (hbc.mono HBb.out.size))
  clear hbc
  have hkk : ((K f).toList == (K g).toList) = sm := by
    by_cases e : f = g
    · rw [← HSm.out, decide_eq_true e, e]; simp
    · rw [← HSm.out, decide_eq_false e]
      cases hb : ((K f).toList == (K g).toList) with
      | false => rfl
      | true =>
        rw [beq_iff_eq, ByteArray.toList_eq, ByteArray.toList_eq] at hb
        exact absurd (S.inj HbF.out HbG.out (by
          have h1 : (K f).data = (K g).data := by
            have h2 := congrArg List.toArray hb
            simpa using h2
          calc K f = ⟨(K f).data⟩ := rfl
            _ = ⟨(K g).data⟩ := by rw [h1]
            _ = K g := rfl)) e
  have hse : (sm == sm) = true := by cases sm <;> rfl
  go_wp2_with fail
  go_ret
  refine ⟨?_, HBc.out⟩
  first | rfl | (show Ending.returned (.bool (((K f).toList == (K g).toList) == sm)) = _; rw [hkk, hse])

end Go.Proofs.YtehokjaojanieaaDoor
