/- bolterlaw11.FormulaLaws, by what a formula package does. -/
import Derived.Test.YtehokjaojanieaaLawFOps
namespace Go.Proofs.Ytehokjaojanieaa
open Go.RowKit
set_option linter.unusedVariables false
set_option linter.unusedSimpArgs false

/-- All numbers of a formula are among these. -/
def InN (f : Fm) (L : List Int) : Prop := ∀ p ∈ f, ∀ x ∈ p, x ∈ L
theorem op_in (op : Nat) {f g : Fm} {L : List Int} (hf : InN f L) (hg : InN g L) : InN (opS op f g) L := by
  intro p hp x hx
  unfold opS at hp
  obtain ⟨b, _, _, rfl⟩ := make_mem.1 hp
  obtain ⟨i, hi, _, rfl⟩ := chosen_mem.1 hx
  have hm : inAt (opAtoms op f g) i ∈ opAtoms op f g := by rw [inAt_lt hi]; exact List.getElem_mem hi
  unfold opAtoms at hm
  have two : ∀ {fs : List Fm} {y : Int}, (∀ k ∈ fs, InN k L) → y ∈ atomsS fs → y ∈ L := fun hk hy => by
    obtain ⟨k, hk1, p, hp, hx⟩ := atoms_mem.1 hy
    exact hk k hk1 p hp _ hx
  unfold opAtoms
  split at hm
  · rw [if_pos (by assumption)]
    exact two (fun k hk => by rw [List.mem_singleton.1 hk]; exact hf) hm
  · rw [if_neg (by assumption)]
    exact two (fun k hk => by
      rcases List.mem_cons.1 hk with e | hk
      · rw [e]; exact hf
      · rw [List.mem_singleton.1 hk]; exact hg) hm
theorem atoms_le {fs : List Fm} {L : List Int} (hL : Up L) (h : ∀ k ∈ fs, InN k L) : (atomsS fs).length ≤ L.length := by
  refine (up_sub L (atomsS fs) (atoms_up fs) hL (fun x hx => ?_)).length_le
  obtain ⟨k, hk, p, hp, hx⟩ := atoms_mem.1 hx
  exact h k hk p hp x hx
theorem flat_bound {α : Type} {n : Nat} : ∀ (l : List (List α)), (∀ p ∈ l, p.length ≤ n) → l.flatten.length ≤ l.length * n
  | [], _ => by simp
  | p :: l, h => by
    have h1 := h p List.mem_cons_self
    have h2 := flat_bound l (fun q hq => h q (List.mem_cons_of_mem _ hq))
    rw [List.flatten_cons, List.length_append, List.length_cons, Nat.add_mul]
    omega
theorem op_size (op : Nat) {f g : Fm} {L : List Int} (hL : Up L) (h9 : L.length ≤ 9) (hf : InN f L) (hg : InN g L) : (opS op f g).flatten.length ≤ 4608 := by
  have hl : (opAtoms op f g).length ≤ 9 := by
    unfold opAtoms
    split
    · exact Nat.le_trans (atoms_le hL (fun k hk => by rw [List.mem_singleton.1 hk]; exact hf)) h9
    · exact Nat.le_trans (atoms_le hL (fun k hk => by
        rcases List.mem_cons.1 hk with e | hk
        · rw [e]; exact hf
        · rw [List.mem_singleton.1 hk]; exact hg)) h9
  unfold opS
  generalize opAtoms op f g = l at hl ⊢
  have h1 := make_le l (opHf op f g l (2 ^ l.length)) (2 ^ l.length)
  have h2 : 2 ^ l.length ≤ 2 ^ 9 := Nat.pow_le_pow_right (by omega) hl
  have h3 := flat_bound (n := 9) (makeTo l (opHf op f g l (2 ^ l.length)) (2 ^ l.length)) (fun p hp => by
    obtain ⟨b, _, _, rfl⟩ := make_mem.1 hp
    exact Nat.le_trans (ch_le l b l.length) hl)
  have h4 : (2 : Nat) ^ 9 = 512 := by decide
  omega
theorem small_of {f g : Fm} {L : List Int} (hL : Up L) (h9 : L.length ≤ 9) (hf : InN f L) (hg : InN g L) (h1 : f.flatten.length ≤ 5000) (h2 : g.flatten.length ≤ 5000) : Small f g :=
  ⟨by omega, Nat.le_trans (atoms_le hL (fun k hk => by
    rcases List.mem_cons.1 hk with e | hk
    · rw [e]; exact hf
    · rw [List.mem_singleton.1 hk]; exact hg)) h9⟩
theorem nil_in (L : List Int) : InN [] L := fun p hp => by cases hp
/- The laws. -/
theorem or_comm' {f g : Fm} (hf : Fmd f) (hg : Fmd g) : opS 0 f g = opS 0 g f :=
  fm_unique (or_fmd hf hg).1 (or_fmd hg hf).1 (fun on => by rw [(or_fmd hf hg).2, (or_fmd hg hf).2, Bool.or_comm])
theorem and_comm' {f g : Fm} (hf : Fmd f) (hg : Fmd g) : opS 1 f g = opS 1 g f :=
  fm_unique (and_fmd hf hg).1 (and_fmd hg hf).1 (fun on => by rw [(and_fmd hf hg).2, (and_fmd hg hf).2, Bool.and_comm])
theorem or_self' {f : Fm} (hf : Fmd f) : opS 0 f f = f := fm_unique (or_fmd hf hf).1 hf (fun on => by rw [(or_fmd hf hf).2, Bool.or_self])
theorem and_self' {f : Fm} (hf : Fmd f) : opS 1 f f = f := fm_unique (and_fmd hf hf).1 hf (fun on => by rw [(and_fmd hf hf).2, Bool.and_self])
theorem and_over {f g h : Fm} (hf : Fmd f) (hg : Fmd g) (hh : Fmd h) : opS 1 f (opS 0 g h) = opS 0 (opS 1 f g) (opS 1 f h) :=
  fm_unique (and_fmd hf (or_fmd hg hh).1).1 (or_fmd (and_fmd hf hg).1 (and_fmd hf hh).1).1 (fun on => by
    rw [(and_fmd hf (or_fmd hg hh).1).2, (or_fmd hg hh).2, (or_fmd (and_fmd hf hg).1 (and_fmd hf hh).1).2, (and_fmd hf hg).2, (and_fmd hf hh).2, Bool.and_or_distrib_left])
theorem dual_twice {f : Fm} (hf : Fmd f) : opS 2 (opS 2 f []) [] = f := by
  have ht := (dual_fmd (g := []) hf).1
  refine fm_unique (dual_fmd (g := []) ht).1 hf (fun on => ?_)
  have hin : InN (opS 2 f []) (atomsS [f]) := op_in 2 (fun p hp x hx => atoms_mem.2 ⟨f, by simp, p, hp, hx⟩) (nil_in _)
  have hx : ∀ x, x ∈ atomsS [f] → (x ∈ (atomsS [f]).filter (fun y => !hasS on y) ↔ ¬ x ∈ on) := fun x hx => by
    rw [List.mem_filter]
    constructor
    · rintro ⟨_, h⟩ hc; rw [has_iff.2 hc] at h; cases h
    · intro h
      refine ⟨hx, ?_⟩
      cases hv : hasS on x with
      | false => rfl
      | true => exact absurd (has_iff.1 hv) h
  rw [(dual_fmd (g := []) ht).2 on ((atomsS [f]).filter (fun y => !hasS on y)) (fun p hp x hxp => hx x (hin p hp x hxp)),
    (dual_fmd (g := []) hf).2 ((atomsS [f]).filter (fun y => !hasS on y)) on (fun p hp x hxp => by
      have := hx x (atoms_mem.2 ⟨f, by simp, p, hp, hxp⟩)
      constructor
      · intro h1 h2; exact this.1 h2 h1
      · intro h1
        by_cases h2 : x ∈ on
        · exact h2
        · exact absurd (this.2 h2) h1), Bool.not_not]
theorem fs_three {w : World} {u v t : Value} {f g h : Fm} {T : TypeId} (hf : FmAt w u f) (hg : FmAt w v g) (hh : FmAt w t h) : FsAt (w.alloc (.cells #[u, v, t] T)) (.slice (some ⟨w.heap.size, 0, none⟩) 3 3) [f, g, h] := by
  refine ⟨_, _, rfl, Nat.le_refl _, by omega, fun _ => ⟨w.heap.size, 0, rfl, by simp, fun j hj => ?_⟩⟩
  have hb : Below w.heap.size w (w.alloc (.cells #[u, v, t] T)) := (Below.refl _ _).alloc (Nat.le_refl _) _
  have hj2 : j < 3 := hj
  match j, hj2 with
  | 0, _ => exact ⟨u, by have := (At.new w T #[u, v, t]).cell 0; simp, hf.next hb⟩
  | 1, _ => exact ⟨v, by have := (At.new w T #[u, v, t]).cell 1; simp, hg.next hb⟩
  | 2, _ => exact ⟨t, by have := (At.new w T #[u, v, t]).cell 2; simp, hh.next hb⟩

set_option maxRecDepth 100000 in
set_option maxHeartbeats 32000000 in
theorem lawFLaws (S : FormulaSpec) (f g h : Fm) (A B C : Option Addr) (n c m d k o : Nat) (w : World) (hf : FmAt w (.slice A n c) f) (hg : FmAt w (.slice B m d) g) (hh : FmAt w (.slice C k o) h) (hfs : FmFit f) (hgs : FmFit g) (hhs : FmFit h) :
    Calls Try.prog 4 #[.slice A n c, .slice B m d, .slice C k o] w fun e w' => e = .returned (.bool true) ∧ Below w.heap.size w w' := by
  have HF := Lib.hid hf
  have HG := Lib.hid hg
  have HH := Lib.hid hh
  obtain rfl := hf.len
  obtain rfl := hg.len
  obtain rfl := hh.len
  have HFs := Lib.hid hfs
  have HGs := Lib.hid hgs
  have HHs := Lib.hid hhs
  clear hf hg hh hfs hgs hhs
  go_enter Try.func4, Try.ntmps4
  go_wp2_with fail
  refine (S.awake w).mono ?_
  rintro e w0 ⟨rfl, hb0⟩
  have HB0 := Lib.hid hb0
  clear hb0
  go_wp2_with fail
  refine (lawFew11 f g A B _ c _ d w0 (HF.out.next HB0.out) (HG.out.next HB0.out) HFs.out HGs.out).mono ?_
  rintro e w1 ⟨b1, rfl, hfew, hb⟩
  have HB1 := Lib.hid (HB0.out.trans (hb.mono HB0.out.size))
  have E1 := Lib.hid hfew
  clear hb hfew
  cases b1
  · go_wp2_with fail
    refine (S.awake w1).mono ?_
    rintro e wz ⟨rfl, hbz⟩
    have HBz := Lib.hid (HB1.out.trans (hbz.mono HB1.out.size))
    clear hbz
    go_wp2_with fail
    go_ret
    exact ⟨rfl, HBz.out⟩
  go_wp2_with fail
  refine (lawFew11 g h B C _ d _ o w1 (HG.out.next HB1.out) (HH.out.next HB1.out) HGs.out HHs.out).mono ?_
  rintro e w2 ⟨b2, rfl, hfew, hb⟩
  have HB2 := Lib.hid (HB1.out.trans (hb.mono HB1.out.size))
  have E2 := Lib.hid hfew
  clear hb hfew
  cases b2
  · go_wp2_with fail
    refine (S.awake w2).mono ?_
    rintro e wz ⟨rfl, hbz⟩
    have HBz := Lib.hid (HB2.out.trans (hbz.mono HB2.out.size))
    clear hbz
    go_wp2_with fail
    go_ret
    exact ⟨rfl, HBz.out⟩
  go_wp2_with fail
  refine (lawFew11 f h A C _ c _ o w2 (HF.out.next HB2.out) (HH.out.next HB2.out) HFs.out HHs.out).mono ?_
  rintro e w3 ⟨b3, rfl, hfew, hb⟩
  have HB3 := Lib.hid (HB2.out.trans (hb.mono HB2.out.size))
  have E3 := Lib.hid hfew
  clear hb hfew
  cases b3
  · go_wp2_with fail
    refine (S.awake w3).mono ?_
    rintro e wz ⟨rfl, hbz⟩
    have HBz := Lib.hid (HB3.out.trans (hbz.mono HB3.out.size))
    clear hbz
    go_wp2_with fail
    go_ret
    exact ⟨rfl, HBz.out⟩
  go_wp2_with fail
  refine (refFormed9 f A _ c w3 (HF.out.next HB3.out)).mono ?_
  rintro e w4 ⟨rfl, hb⟩
  have HB4 := Lib.hid (HB3.out.trans (hb.mono HB3.out.size))
  clear hb
  obtain ⟨b4, hbe⟩ : ∃ b, fmS f = b := ⟨_, rfl⟩
  rw [hbe]
  have F1 := Lib.hid hbe
  clear hbe
  cases b4
  · go_wp2_with fail
    refine (S.awake w4).mono ?_
    rintro e wz ⟨rfl, hbz⟩
    have HBz := Lib.hid (HB4.out.trans (hbz.mono HB4.out.size))
    clear hbz
    go_wp2_with fail
    go_ret
    exact ⟨rfl, HBz.out⟩
  go_wp2_with fail
  refine (refFormed9 g B _ d w4 (HG.out.next HB4.out)).mono ?_
  rintro e w5 ⟨rfl, hb⟩
  have HB5 := Lib.hid (HB4.out.trans (hb.mono HB4.out.size))
  clear hb
  obtain ⟨b5, hbe⟩ : ∃ b, fmS g = b := ⟨_, rfl⟩
  rw [hbe]
  have F2 := Lib.hid hbe
  clear hbe
  cases b5
  · go_wp2_with fail
    refine (S.awake w5).mono ?_
    rintro e wz ⟨rfl, hbz⟩
    have HBz := Lib.hid (HB5.out.trans (hbz.mono HB5.out.size))
    clear hbz
    go_wp2_with fail
    go_ret
    exact ⟨rfl, HBz.out⟩
  go_wp2_with fail
  refine (refFormed9 h C _ o w5 (HH.out.next HB5.out)).mono ?_
  rintro e w6 ⟨rfl, hb⟩
  have HB6 := Lib.hid (HB5.out.trans (hb.mono HB5.out.size))
  clear hb
  obtain ⟨b6, hbe⟩ : ∃ b, fmS h = b := ⟨_, rfl⟩
  rw [hbe]
  have F3 := Lib.hid hbe
  clear hbe
  cases b6
  · go_wp2_with fail
    refine (S.awake w6).mono ?_
    rintro e wz ⟨rfl, hbz⟩
    have HBz := Lib.hid (HB6.out.trans (hbz.mono HB6.out.size))
    clear hbz
    go_wp2_with fail
    go_ret
    exact ⟨rfl, HBz.out⟩
  have HSz : Hid (f.flatten.length ≤ 300 ∧ g.flatten.length ≤ 300 ∧ h.flatten.length ≤ 300) := Lib.hid (by have := (E1.out (by simp)).1; have := (E2.out (by simp)).1; omega)
  go_wp2_with fail
  refine (refAtoms [f, g, h] (some ⟨w6.heap.size, 0, none⟩) 3 3 _ (fs_three (HF.out.next HB6.out) (HG.out.next HB6.out) (HH.out.next HB6.out)) (by have := HSz.out; simp only [List.flatten_cons, List.flatten_nil, List.append_nil, List.flatten_append, List.length_append]; omega)).mono ?_
  rintro e w7 ⟨va, rfl, hza, hb⟩
  have hia := hza.ints
  obtain ⟨Aa, ca, rfl, _⟩ := id hia
  have ha63 := hia.max
  have HB7 := Lib.hid (HB6.out.trans ((((Below.refl _ _).alloc (Nat.le_refl _) _).trans (hb.mono (by simp))).mono HB6.out.size))
  have HUp := Lib.hid (atoms_up [f, g, h])
  have HIf : Hid (InN f (atomsS [f, g, h])) := Lib.hid (fun p hp x hx => atoms_mem.2 ⟨f, by simp, p, hp, hx⟩)
  have HIg : Hid (InN g (atomsS [f, g, h])) := Lib.hid (fun p hp x hx => atoms_mem.2 ⟨g, by simp, p, hp, hx⟩)
  have HIh : Hid (InN h (atomsS [f, g, h])) := Lib.hid (fun p hp x hx => atoms_mem.2 ⟨h, by simp, p, hp, hx⟩)
  obtain ⟨l, hle⟩ : ∃ l, atomsS [f, g, h] = l := ⟨_, rfl⟩
  rw [hle] at HUp HIf HIg HIh ha63 ⊢
  clear hza hia hb hle
  by_cases h9 : 9 < l.length
  · have h91 : (9 : Int) < (l.length : Int) := by omega
    go_wp2_with fail
    refine (S.awake w7).mono ?_
    rintro e wz ⟨rfl, hbz⟩
    have HBz := Lib.hid (HB7.out.trans (hbz.mono HB7.out.size))
    clear hbz
    go_wp2_with fail
    go_ret
    exact ⟨rfl, HBz.out⟩
  have h91 : ¬ (9 : Int) < (l.length : Int) := by omega
  have HL9 : Hid (l.length ≤ 9) := Lib.hid (by omega)
  have hFf := Lib.hid (fm_of F1.out)
  have hFg := Lib.hid (fm_of F2.out)
  have hFh := Lib.hid (fm_of F3.out)
  clear h9
  go_wp2_with fail
  refine (S.or (HF.out.next HB7.out) (HG.out.next HB7.out) (small_of HUp.out HL9.out HIf.out HIg.out (by have := HSz.out; omega) (by have := HSz.out; omega))).mono ?_
  rintro e w8 ⟨A_a, c_a, x_a, e_a, rfl, hx, hp, hb⟩
  obtain ⟨he, hxe⟩ := hp.1 ⟨fm_mk hFf.out, fm_mk hFg.out⟩
  subst he
  subst hxe
  have H_a := Lib.hid hx
  have HB8 := Lib.hid (HB7.out.trans (hb.mono HB7.out.size))
  have Fm_a := Lib.hid (or_fmd hFf.out hFg.out).1
  have In_a := Lib.hid (op_in (L := l) 0 HIf.out HIg.out)
  have Sz_a := Lib.hid (op_size (L := l) 0 HUp.out HL9.out HIf.out HIg.out)
  clear hx hp hb
  go_wp2_with fail
  refine (S.or (HG.out.next HB8.out) (HF.out.next HB8.out) (small_of HUp.out HL9.out HIg.out HIf.out (by have := HSz.out; omega) (by have := HSz.out; omega))).mono ?_
  rintro e w9 ⟨A_b, c_b, x_b, e_b, rfl, hx, hp, hb⟩
  obtain ⟨he, hxe⟩ := hp.1 ⟨fm_mk hFg.out, fm_mk hFf.out⟩
  subst he
  subst hxe
  have H_b := Lib.hid hx
  have H_a := Lib.hid (H_a.out.next hb)
  have HB9 := Lib.hid (HB8.out.trans (hb.mono HB8.out.size))
  have Fm_b := Lib.hid (or_fmd hFg.out hFf.out).1
  have In_b := Lib.hid (op_in (L := l) 0 HIg.out HIf.out)
  have Sz_b := Lib.hid (op_size (L := l) 0 HUp.out HL9.out HIg.out HIf.out)
  clear hx hp hb
  go_wp2_with fail
  refine (S.and (HF.out.next HB9.out) (HG.out.next HB9.out) (small_of HUp.out HL9.out HIf.out HIg.out (by have := HSz.out; omega) (by have := HSz.out; omega))).mono ?_
  rintro e w10 ⟨A_c, c_c, x_c, e_c, rfl, hx, hp, hb⟩
  obtain ⟨he, hxe⟩ := hp.1 ⟨fm_mk hFf.out, fm_mk hFg.out⟩
  subst he
  subst hxe
  have H_c := Lib.hid hx
  have H_a := Lib.hid (H_a.out.next hb)
  have H_b := Lib.hid (H_b.out.next hb)
  have HB10 := Lib.hid (HB9.out.trans (hb.mono HB9.out.size))
  have Fm_c := Lib.hid (and_fmd hFf.out hFg.out).1
  have In_c := Lib.hid (op_in (L := l) 1 HIf.out HIg.out)
  have Sz_c := Lib.hid (op_size (L := l) 1 HUp.out HL9.out HIf.out HIg.out)
  clear hx hp hb
  go_wp2_with fail
  refine (S.and (HG.out.next HB10.out) (HF.out.next HB10.out) (small_of HUp.out HL9.out HIg.out HIf.out (by have := HSz.out; omega) (by have := HSz.out; omega))).mono ?_
  rintro e w11 ⟨A_d, c_d, x_d, e_d, rfl, hx, hp, hb⟩
  obtain ⟨he, hxe⟩ := hp.1 ⟨fm_mk hFg.out, fm_mk hFf.out⟩
  subst he
  subst hxe
  have H_d := Lib.hid hx
  have H_a := Lib.hid (H_a.out.next hb)
  have H_b := Lib.hid (H_b.out.next hb)
  have H_c := Lib.hid (H_c.out.next hb)
  have HB11 := Lib.hid (HB10.out.trans (hb.mono HB10.out.size))
  have Fm_d := Lib.hid (and_fmd hFg.out hFf.out).1
  have In_d := Lib.hid (op_in (L := l) 1 HIg.out HIf.out)
  have Sz_d := Lib.hid (op_size (L := l) 1 HUp.out HL9.out HIg.out HIf.out)
  clear hx hp hb
  go_wp2_with fail
  refine (S.and (HF.out.next HB11.out) (HF.out.next HB11.out) (small_of HUp.out HL9.out HIf.out HIf.out (by have := HSz.out; omega) (by have := HSz.out; omega))).mono ?_
  rintro e w12 ⟨A_x, c_x, x_x, e_x, rfl, hx, hp, hb⟩
  obtain ⟨he, hxe⟩ := hp.1 ⟨fm_mk hFf.out, fm_mk hFf.out⟩
  subst he
  subst hxe
  have H_x := Lib.hid hx
  have H_a := Lib.hid (H_a.out.next hb)
  have H_b := Lib.hid (H_b.out.next hb)
  have H_c := Lib.hid (H_c.out.next hb)
  have H_d := Lib.hid (H_d.out.next hb)
  have HB12 := Lib.hid (HB11.out.trans (hb.mono HB11.out.size))
  have Fm_x := Lib.hid (and_fmd hFf.out hFf.out).1
  have In_x := Lib.hid (op_in (L := l) 1 HIf.out HIf.out)
  have Sz_x := Lib.hid (op_size (L := l) 1 HUp.out HL9.out HIf.out HIf.out)
  clear hx hp hb
  go_wp2_with fail
  refine (S.or (HF.out.next HB12.out) (HF.out.next HB12.out) (small_of HUp.out HL9.out HIf.out HIf.out (by have := HSz.out; omega) (by have := HSz.out; omega))).mono ?_
  rintro e w13 ⟨A_y, c_y, x_y, e_y, rfl, hx, hp, hb⟩
  obtain ⟨he, hxe⟩ := hp.1 ⟨fm_mk hFf.out, fm_mk hFf.out⟩
  subst he
  subst hxe
  have H_y := Lib.hid hx
  have H_a := Lib.hid (H_a.out.next hb)
  have H_b := Lib.hid (H_b.out.next hb)
  have H_c := Lib.hid (H_c.out.next hb)
  have H_d := Lib.hid (H_d.out.next hb)
  have H_x := Lib.hid (H_x.out.next hb)
  have HB13 := Lib.hid (HB12.out.trans (hb.mono HB12.out.size))
  have Fm_y := Lib.hid (or_fmd hFf.out hFf.out).1
  have In_y := Lib.hid (op_in (L := l) 0 HIf.out HIf.out)
  have Sz_y := Lib.hid (op_size (L := l) 0 HUp.out HL9.out HIf.out HIf.out)
  clear hx hp hb
  go_wp2_with fail
  refine (S.or (HG.out.next HB13.out) (HH.out.next HB13.out) (small_of HUp.out HL9.out HIg.out HIh.out (by have := HSz.out; omega) (by have := HSz.out; omega))).mono ?_
  rintro e w14 ⟨A_p, c_p, x_p, e_p, rfl, hx, hp, hb⟩
  obtain ⟨he, hxe⟩ := hp.1 ⟨fm_mk hFg.out, fm_mk hFh.out⟩
  subst he
  subst hxe
  have H_p := Lib.hid hx
  have H_a := Lib.hid (H_a.out.next hb)
  have H_b := Lib.hid (H_b.out.next hb)
  have H_c := Lib.hid (H_c.out.next hb)
  have H_d := Lib.hid (H_d.out.next hb)
  have H_x := Lib.hid (H_x.out.next hb)
  have H_y := Lib.hid (H_y.out.next hb)
  have HB14 := Lib.hid (HB13.out.trans (hb.mono HB13.out.size))
  have Fm_p := Lib.hid (or_fmd hFg.out hFh.out).1
  have In_p := Lib.hid (op_in (L := l) 0 HIg.out HIh.out)
  have Sz_p := Lib.hid (op_size (L := l) 0 HUp.out HL9.out HIg.out HIh.out)
  clear hx hp hb
  go_wp2_with fail
  refine (S.and (HF.out.next HB14.out) H_p.out (small_of HUp.out HL9.out HIf.out In_p.out (by have := HSz.out; omega) (Nat.le_trans Sz_p.out (by omega)))).mono ?_
  rintro e w15 ⟨A_q, c_q, x_q, e_q, rfl, hx, hp, hb⟩
  obtain ⟨he, hxe⟩ := hp.1 ⟨fm_mk hFf.out, fm_mk Fm_p.out⟩
  subst he
  subst hxe
  have H_q := Lib.hid hx
  have H_a := Lib.hid (H_a.out.next hb)
  have H_b := Lib.hid (H_b.out.next hb)
  have H_c := Lib.hid (H_c.out.next hb)
  have H_d := Lib.hid (H_d.out.next hb)
  have H_x := Lib.hid (H_x.out.next hb)
  have H_y := Lib.hid (H_y.out.next hb)
  have H_p := Lib.hid (H_p.out.next hb)
  have HB15 := Lib.hid (HB14.out.trans (hb.mono HB14.out.size))
  have Fm_q := Lib.hid (and_fmd hFf.out Fm_p.out).1
  have In_q := Lib.hid (op_in (L := l) 1 HIf.out In_p.out)
  have Sz_q := Lib.hid (op_size (L := l) 1 HUp.out HL9.out HIf.out In_p.out)
  clear hx hp hb
  go_wp2_with fail
  refine (S.and (HF.out.next HB15.out) (HH.out.next HB15.out) (small_of HUp.out HL9.out HIf.out HIh.out (by have := HSz.out; omega) (by have := HSz.out; omega))).mono ?_
  rintro e w16 ⟨A_r, c_r, x_r, e_r, rfl, hx, hp, hb⟩
  obtain ⟨he, hxe⟩ := hp.1 ⟨fm_mk hFf.out, fm_mk hFh.out⟩
  subst he
  subst hxe
  have H_r := Lib.hid hx
  have H_a := Lib.hid (H_a.out.next hb)
  have H_b := Lib.hid (H_b.out.next hb)
  have H_c := Lib.hid (H_c.out.next hb)
  have H_d := Lib.hid (H_d.out.next hb)
  have H_x := Lib.hid (H_x.out.next hb)
  have H_y := Lib.hid (H_y.out.next hb)
  have H_p := Lib.hid (H_p.out.next hb)
  have H_q := Lib.hid (H_q.out.next hb)
  have HB16 := Lib.hid (HB15.out.trans (hb.mono HB15.out.size))
  have Fm_r := Lib.hid (and_fmd hFf.out hFh.out).1
  have In_r := Lib.hid (op_in (L := l) 1 HIf.out HIh.out)
  have Sz_r := Lib.hid (op_size (L := l) 1 HUp.out HL9.out HIf.out HIh.out)
  clear hx hp hb
  go_wp2_with fail
  refine (S.or H_c.out H_r.out (small_of HUp.out HL9.out In_c.out In_r.out (Nat.le_trans Sz_c.out (by omega)) (Nat.le_trans Sz_r.out (by omega)))).mono ?_
  rintro e w17 ⟨A_s, c_s, x_s, e_s, rfl, hx, hp, hb⟩
  obtain ⟨he, hxe⟩ := hp.1 ⟨fm_mk Fm_c.out, fm_mk Fm_r.out⟩
  subst he
  subst hxe
  have H_s := Lib.hid hx
  have H_a := Lib.hid (H_a.out.next hb)
  have H_b := Lib.hid (H_b.out.next hb)
  have H_c := Lib.hid (H_c.out.next hb)
  have H_d := Lib.hid (H_d.out.next hb)
  have H_x := Lib.hid (H_x.out.next hb)
  have H_y := Lib.hid (H_y.out.next hb)
  have H_p := Lib.hid (H_p.out.next hb)
  have H_q := Lib.hid (H_q.out.next hb)
  have H_r := Lib.hid (H_r.out.next hb)
  have HB17 := Lib.hid (HB16.out.trans (hb.mono HB16.out.size))
  have Fm_s := Lib.hid (or_fmd Fm_c.out Fm_r.out).1
  have In_s := Lib.hid (op_in (L := l) 0 In_c.out In_r.out)
  have Sz_s := Lib.hid (op_size (L := l) 0 HUp.out HL9.out In_c.out In_r.out)
  clear hx hp hb
  go_wp2_with fail
  refine (S.dual (HF.out.next HB17.out) (small_of HUp.out HL9.out HIf.out (nil_in _) (by have := HSz.out; omega) (by simp))).mono ?_
  rintro e w18 ⟨A_t, c_t, x_t, e_t, rfl, hx, hp, hb⟩
  obtain ⟨he, hxe⟩ := hp.1 (fm_mk hFf.out)
  subst he
  subst hxe
  have H_t := Lib.hid hx
  have H_a := Lib.hid (H_a.out.next hb)
  have H_b := Lib.hid (H_b.out.next hb)
  have H_c := Lib.hid (H_c.out.next hb)
  have H_d := Lib.hid (H_d.out.next hb)
  have H_x := Lib.hid (H_x.out.next hb)
  have H_y := Lib.hid (H_y.out.next hb)
  have H_p := Lib.hid (H_p.out.next hb)
  have H_q := Lib.hid (H_q.out.next hb)
  have H_r := Lib.hid (H_r.out.next hb)
  have H_s := Lib.hid (H_s.out.next hb)
  have HB18 := Lib.hid (HB17.out.trans (hb.mono HB17.out.size))
  have Fm_t := Lib.hid (dual_fmd (g := []) hFf.out).1
  have In_t := Lib.hid (op_in (L := l) 2 HIf.out (nil_in _))
  have Sz_t := Lib.hid (op_size (L := l) 2 HUp.out HL9.out HIf.out (nil_in _))
  clear hx hp hb
  go_wp2_with fail
  refine (S.dual H_t.out (small_of HUp.out HL9.out In_t.out (nil_in _) (Nat.le_trans Sz_t.out (by omega)) (by simp))).mono ?_
  rintro e w19 ⟨A_u, c_u, x_u, e_u, rfl, hx, hp, hb⟩
  obtain ⟨he, hxe⟩ := hp.1 (fm_mk Fm_t.out)
  subst he
  subst hxe
  have H_u := Lib.hid hx
  have H_a := Lib.hid (H_a.out.next hb)
  have H_b := Lib.hid (H_b.out.next hb)
  have H_c := Lib.hid (H_c.out.next hb)
  have H_d := Lib.hid (H_d.out.next hb)
  have H_x := Lib.hid (H_x.out.next hb)
  have H_y := Lib.hid (H_y.out.next hb)
  have H_p := Lib.hid (H_p.out.next hb)
  have H_q := Lib.hid (H_q.out.next hb)
  have H_r := Lib.hid (H_r.out.next hb)
  have H_s := Lib.hid (H_s.out.next hb)
  have H_t := Lib.hid (H_t.out.next hb)
  have HB19 := Lib.hid (HB18.out.trans (hb.mono HB18.out.size))
  have Fm_u := Lib.hid (dual_fmd (g := []) Fm_t.out).1
  have In_u := Lib.hid (op_in (L := l) 2 In_t.out (nil_in _))
  have Sz_u := Lib.hid (op_size (L := l) 2 HUp.out HL9.out In_t.out (nil_in _))
  clear hx hp hb
  go_wp2_with fail
  refine (S.same H_a.out H_b.out).mono ?_
  rintro e w20 ⟨rfl, hb⟩
  rw [decide_eq_true (or_comm' hFf.out hFg.out)]
  have HB20 := Lib.hid (HB19.out.trans (hb.mono HB19.out.size))
  have H_a := Lib.hid (H_a.out.next hb)
  have H_b := Lib.hid (H_b.out.next hb)
  have H_c := Lib.hid (H_c.out.next hb)
  have H_d := Lib.hid (H_d.out.next hb)
  have H_x := Lib.hid (H_x.out.next hb)
  have H_y := Lib.hid (H_y.out.next hb)
  have H_p := Lib.hid (H_p.out.next hb)
  have H_q := Lib.hid (H_q.out.next hb)
  have H_r := Lib.hid (H_r.out.next hb)
  have H_s := Lib.hid (H_s.out.next hb)
  have H_t := Lib.hid (H_t.out.next hb)
  have H_u := Lib.hid (H_u.out.next hb)
  clear hb
  go_wp2_with fail
  refine (S.same H_c.out H_d.out).mono ?_
  rintro e w21 ⟨rfl, hb⟩
  rw [decide_eq_true (and_comm' hFf.out hFg.out)]
  have HB21 := Lib.hid (HB20.out.trans (hb.mono HB20.out.size))
  have H_a := Lib.hid (H_a.out.next hb)
  have H_b := Lib.hid (H_b.out.next hb)
  have H_c := Lib.hid (H_c.out.next hb)
  have H_d := Lib.hid (H_d.out.next hb)
  have H_x := Lib.hid (H_x.out.next hb)
  have H_y := Lib.hid (H_y.out.next hb)
  have H_p := Lib.hid (H_p.out.next hb)
  have H_q := Lib.hid (H_q.out.next hb)
  have H_r := Lib.hid (H_r.out.next hb)
  have H_s := Lib.hid (H_s.out.next hb)
  have H_t := Lib.hid (H_t.out.next hb)
  have H_u := Lib.hid (H_u.out.next hb)
  clear hb
  go_wp2_with fail
  refine (S.same H_x.out (HF.out.next HB21.out)).mono ?_
  rintro e w22 ⟨rfl, hb⟩
  rw [decide_eq_true (and_self' hFf.out)]
  have HB22 := Lib.hid (HB21.out.trans (hb.mono HB21.out.size))
  have H_a := Lib.hid (H_a.out.next hb)
  have H_b := Lib.hid (H_b.out.next hb)
  have H_c := Lib.hid (H_c.out.next hb)
  have H_d := Lib.hid (H_d.out.next hb)
  have H_x := Lib.hid (H_x.out.next hb)
  have H_y := Lib.hid (H_y.out.next hb)
  have H_p := Lib.hid (H_p.out.next hb)
  have H_q := Lib.hid (H_q.out.next hb)
  have H_r := Lib.hid (H_r.out.next hb)
  have H_s := Lib.hid (H_s.out.next hb)
  have H_t := Lib.hid (H_t.out.next hb)
  have H_u := Lib.hid (H_u.out.next hb)
  clear hb
  go_wp2_with fail
  refine (S.same H_y.out (HF.out.next HB22.out)).mono ?_
  rintro e w23 ⟨rfl, hb⟩
  rw [decide_eq_true (or_self' hFf.out)]
  have HB23 := Lib.hid (HB22.out.trans (hb.mono HB22.out.size))
  have H_a := Lib.hid (H_a.out.next hb)
  have H_b := Lib.hid (H_b.out.next hb)
  have H_c := Lib.hid (H_c.out.next hb)
  have H_d := Lib.hid (H_d.out.next hb)
  have H_x := Lib.hid (H_x.out.next hb)
  have H_y := Lib.hid (H_y.out.next hb)
  have H_p := Lib.hid (H_p.out.next hb)
  have H_q := Lib.hid (H_q.out.next hb)
  have H_r := Lib.hid (H_r.out.next hb)
  have H_s := Lib.hid (H_s.out.next hb)
  have H_t := Lib.hid (H_t.out.next hb)
  have H_u := Lib.hid (H_u.out.next hb)
  clear hb
  go_wp2_with fail
  refine (S.same H_q.out H_s.out).mono ?_
  rintro e w24 ⟨rfl, hb⟩
  rw [decide_eq_true (and_over hFf.out hFg.out hFh.out)]
  have HB24 := Lib.hid (HB23.out.trans (hb.mono HB23.out.size))
  have H_a := Lib.hid (H_a.out.next hb)
  have H_b := Lib.hid (H_b.out.next hb)
  have H_c := Lib.hid (H_c.out.next hb)
  have H_d := Lib.hid (H_d.out.next hb)
  have H_x := Lib.hid (H_x.out.next hb)
  have H_y := Lib.hid (H_y.out.next hb)
  have H_p := Lib.hid (H_p.out.next hb)
  have H_q := Lib.hid (H_q.out.next hb)
  have H_r := Lib.hid (H_r.out.next hb)
  have H_s := Lib.hid (H_s.out.next hb)
  have H_t := Lib.hid (H_t.out.next hb)
  have H_u := Lib.hid (H_u.out.next hb)
  clear hb
  go_wp2_with fail
  refine (S.same H_u.out (HF.out.next HB24.out)).mono ?_
  rintro e w25 ⟨rfl, hb⟩
  rw [decide_eq_true (dual_twice hFf.out)]
  have HB25 := Lib.hid (HB24.out.trans (hb.mono HB24.out.size))
  have H_a := Lib.hid (H_a.out.next hb)
  have H_b := Lib.hid (H_b.out.next hb)
  have H_c := Lib.hid (H_c.out.next hb)
  have H_d := Lib.hid (H_d.out.next hb)
  have H_x := Lib.hid (H_x.out.next hb)
  have H_y := Lib.hid (H_y.out.next hb)
  have H_p := Lib.hid (H_p.out.next hb)
  have H_q := Lib.hid (H_q.out.next hb)
  have H_r := Lib.hid (H_r.out.next hb)
  have H_s := Lib.hid (H_s.out.next hb)
  have H_t := Lib.hid (H_t.out.next hb)
  have H_u := Lib.hid (H_u.out.next hb)
  clear hb
  go_wp2_with fail
  go_ret
  exact ⟨rfl, HB25.out⟩

end Go.Proofs.Ytehokjaojanieaa
