/- bolterlaw11.FormulaOps, by what a formula package does. -/
import Derived.Test.YtehokjaojanieaaFmSpec
namespace Go.Proofs.Ytehokjaojanieaa
open Go.RowKit
set_option linter.unusedVariables false
set_option linter.unusedSimpArgs false

set_option maxRecDepth 100000 in
set_option maxHeartbeats 16000000 in
theorem lawFOps (S : FormulaSpec) (f g : Fm) (A B : Option Addr) (n c m d : Nat) (w : World) (hf : FmAt w (.slice A n c) f) (hg : FmAt w (.slice B m d) g) (hfs : FmFit f) (hgs : FmFit g) :
    Calls Try.prog 3 #[.slice A n c, .slice B m d] w fun e w' => e = .returned (.bool true) ∧ Below w.heap.size w w' := by
  have HF := Lib.hid hf
  have HG := Lib.hid hg
  have hf63 := hf.max
  have hg63 := hg.max
  obtain rfl := hf.len
  obtain rfl := hg.len
  have HFs := Lib.hid hfs
  have HGs := Lib.hid hgs
  clear hf hg hfs hgs
  go_enter Try.func3, Try.ntmps3
  go_wp2_with fail
  refine (S.awake w).mono ?_
  rintro e w1 ⟨rfl, hb1⟩
  have HB1 := Lib.hid hb1
  clear hb1
  go_wp2_with fail
  refine (lawFew11 f g A B _ c _ d w1 (HF.out.next HB1.out) (HG.out.next HB1.out) HFs.out HGs.out).mono ?_
  rintro e w2 ⟨bf, rfl, hfew, hb2⟩
  have HB2 := Lib.hid (HB1.out.trans (hb2.mono HB1.out.size))
  have HFw := Lib.hid hfew
  clear hb2 hfew
  cases bf
  · go_wp2_with fail
    refine (S.awake w2).mono ?_
    rintro e w3 ⟨rfl, hb3⟩
    have HB3 := Lib.hid (HB2.out.trans (hb3.mono HB2.out.size))
    clear hb3
    go_wp2_with fail
    go_ret
    exact ⟨rfl, HB3.out⟩
  have HFl : Hid (f.flatten.length ≤ 100000) := Lib.hid (by have := (HFw.out rfl).1; omega)
  have HGl : Hid (g.flatten.length ≤ 100000) := Lib.hid (by have := (HFw.out rfl).1; omega)
  have HSm : Hid (Small f g) := Lib.hid ⟨by have := (HFw.out rfl).1; omega, (HFw.out rfl).2.1⟩
  have HSd : Hid (Small f []) := Lib.hid (by
    refine ⟨by have := (HFw.out rfl).1; simp only [List.flatten_nil, List.length_nil]; omega, ?_⟩
    refine Nat.le_trans ((up_sub _ _ (atoms_up [f, []]) (atoms_up [f, g]) (fun x hx => ?_)).length_le) (HFw.out rfl).2.1
    obtain ⟨k, hk, p, hp, hx⟩ := atoms_mem.1 hx
    rcases List.mem_cons.1 hk with e | hk
    · rw [e] at hp; exact atoms_mem.2 ⟨f, by simp, p, hp, hx⟩
    · rw [List.mem_singleton.1 hk] at hp; cases hp)
  have HMf : Hid ((atomsS [f]).length ≤ 20) := Lib.hid (by
    refine Nat.le_trans ((up_sub _ _ (atoms_up [f]) (atoms_up [f, g]) (fun x hx => ?_)).length_le) (Nat.le_trans (HFw.out rfl).2.1 (by omega))
    obtain ⟨k, hk, p, hp, hx⟩ := atoms_mem.1 hx
    rw [List.mem_singleton.1 hk] at hp
    exact atoms_mem.2 ⟨f, by simp, p, hp, hx⟩)
  go_wp2_with fail
  refine (refFormed9 f A _ c w2 (HF.out.next HB2.out)).mono ?_
  rintro e w3 ⟨rfl, hb3⟩
  have HB3 := Lib.hid (HB2.out.trans (hb3.mono HB2.out.size))
  clear hb3
  go_wp2_with fail
  refine (refFormed9 g B _ d w3 (HG.out.next HB3.out)).mono ?_
  rintro e w4 ⟨rfl, hb4⟩
  have HB4 := Lib.hid (HB3.out.trans (hb4.mono HB3.out.size))
  clear hb4
  obtain ⟨bF, hbF⟩ : ∃ b, fmS f = b := ⟨_, rfl⟩
  obtain ⟨bG, hbG⟩ : ∃ b, fmS g = b := ⟨_, rfl⟩
  have HbF := Lib.hid hbF
  have HbG := Lib.hid hbG
  rw [hbF, hbG]
  clear hbF hbG
  have hnF : (bF != bF) = false := by cases bF <;> rfl
  have hnG : (bG != bG) = false := by cases bG <;> rfl
  go_wp2_with fail
  refine (S.formed (HF.out.next HB4.out) HFl.out).mono ?_
  rintro e w5 ⟨rfl, hb5⟩
  have HB5 := Lib.hid (HB4.out.trans (hb5.mono HB4.out.size))
  clear hb5
  rw [HbF.out]
  go_wp2_with fail
  refine (S.formed (HG.out.next HB5.out) HGl.out).mono ?_
  rintro e w6 ⟨rfl, hb6⟩
  have HB6 := Lib.hid (HB5.out.trans (hb6.mono HB5.out.size))
  clear hb6
  rw [HbG.out]
  go_wp2_with fail
  refine (S.or (HF.out.next HB6.out) (HG.out.next HB6.out) HSm.out).mono ?_
  rintro e w7 ⟨Ax, cx, x, ex, rfl, hx, hpx, hb7⟩
  have HX := Lib.hid hx
  have HPx := Lib.hid hpx
  have HB7 := Lib.hid (HB6.out.trans (hb7.mono HB6.out.size))
  clear hx hpx hb7
  go_wp2_with fail
  refine (S.and (HF.out.next HB7.out) (HG.out.next HB7.out) HSm.out).mono ?_
  rintro e w8 ⟨Ay, cy, y, ey, rfl, hy, hpy, hb8⟩
  have HY := Lib.hid hy
  have HX8 := Lib.hid (HX.out.next hb8)
  have HPy := Lib.hid hpy
  have HB8 := Lib.hid (HB7.out.trans (hb8.mono HB7.out.size))
  clear hy hpy hb8
  go_wp2_with fail
  refine (S.dual (HF.out.next HB8.out) HSd.out).mono ?_
  rintro e w9 ⟨Az, cz, z, ez, rfl, hz, hpz, hb9⟩
  have HZ := Lib.hid hz
  have HX9 := Lib.hid (HX8.out.next hb9)
  have HY9 := Lib.hid (HY.out.next hb9)
  have HPz := Lib.hid hpz
  have HB9 := Lib.hid (HB8.out.trans (hb9.mono HB8.out.size))
  clear hz hpz hb9
  cases bF
  · obtain ⟨hx1, hx2⟩ := HPx.out.2 (by rw [HbF.out]; simp)
    obtain ⟨hy1, hy2⟩ := HPy.out.2 (by rw [HbF.out]; simp)
    obtain ⟨hz1, hz2⟩ := HPz.out.2 (by rw [HbF.out]; simp)
    subst hx1 hx2 hy1 hy2 hz1 hz2
    go_wp2_with fail
    go_ret
    exact ⟨rfl, HB9.out⟩
  · obtain ⟨hz1, hz2⟩ := HPz.out.1 HbF.out
    subst hz1
    cases bG
    · obtain ⟨hx1, hx2⟩ := HPx.out.2 (by rw [HbG.out]; simp)
      obtain ⟨hy1, hy2⟩ := HPy.out.2 (by rw [HbG.out]; simp)
      subst hx1 hx2 hy1 hy2
      go_wp2_with fail
      go_ret
      exact ⟨rfl, HB9.out⟩
    · obtain ⟨hx1, hx2⟩ := HPx.out.1 ⟨HbF.out, HbG.out⟩
      obtain ⟨hy1, hy2⟩ := HPy.out.1 ⟨HbF.out, HbG.out⟩
      subst hx1 hy1
      have HXe := Lib.hid hx2
      have HYe := Lib.hid hy2
      have HZe := Lib.hid hz2
      clear hx2 hy2 hz2
      go_wp2_with fail
      refine (refOp0 f g A B _ c _ d w9 (HF.out.next HB9.out) (HG.out.next HB9.out) (by have := HSm.out.1; omega) (Nat.le_trans HSm.out.2 (by omega))).mono ?_
      rintro e wa ⟨va, rfl, ha, hba⟩
      obtain ⟨Aa, ca, rfl, _⟩ := id ha
      have HXa := Lib.hid (HX9.out.next hba)
      have HYa := Lib.hid (HY9.out.next hba)
      have HZa := Lib.hid (HZ.out.next hba)
      have HBa := Lib.hid (HB9.out.trans (hba.mono HB9.out.size))
      have HAa := Lib.hid ha
      clear ha hba
      go_wp2_with fail
      refine (refSame9 x (opS 0 f g) Ax Aa _ cx _ ca wa HXa.out HAa.out).mono ?_
      rintro e wb ⟨rfl, qb, rfl⟩
      rw [decide_eq_true HXe.out]
      have HBb := Lib.hid (below_dn HBa.out qb)
      have HYb : Hid (FmAt (wa.drewN qb) (.slice Ay y.length cy) y) := Lib.hid (HYa.out.drewN qb)
      have HZb : Hid (FmAt (wa.drewN qb) (.slice Az z.length cz) z) := Lib.hid (HZa.out.drewN qb)
      obtain ⟨wc, hwc⟩ : ∃ wc, wc = wa.drewN qb := ⟨_, rfl⟩
      rw [← hwc] at HBb HYb HZb ⊢
      clear hwc
      go_wp2_with fail
      refine (refOp1 f g A B _ c _ d wc (HF.out.next HBb.out) (HG.out.next HBb.out) (by have := HSm.out.1; omega) (Nat.le_trans HSm.out.2 (by omega))).mono ?_
      rintro e wd ⟨vd, rfl, hd, hbd⟩
      obtain ⟨Ad, cd, rfl, _⟩ := id hd
      have HYd := Lib.hid (HYb.out.next hbd)
      have HZd := Lib.hid (HZb.out.next hbd)
      have HBd := Lib.hid (HBb.out.trans (hbd.mono HBb.out.size))
      have HAd := Lib.hid hd
      clear hd hbd
      go_wp2_with fail
      refine (refSame9 y (opS 1 f g) Ay Ad _ cy _ cd wd HYd.out HAd.out).mono ?_
      rintro e we ⟨rfl, qe, rfl⟩
      rw [decide_eq_true HYe.out]
      have HBe := Lib.hid (below_dn HBd.out qe)
      have HZe2 : Hid (FmAt (wd.drewN qe) (.slice Az z.length cz) z) := Lib.hid (HZd.out.drewN qe)
      obtain ⟨wg, hwg⟩ : ∃ wg, wg = wd.drewN qe := ⟨_, rfl⟩
      rw [← hwg] at HBe HZe2 ⊢
      clear hwg
      go_wp2_with fail
      refine (refOp2 f [] A none _ c 0 0 wg (HF.out.next HBe.out) ⟨none, 0, rfl, Nat.le_refl 0, by omega, fun h => absurd h (Nat.lt_irrefl 0)⟩ (by have := HSm.out.1; simp only [List.flatten_nil, List.length_nil]; omega) HMf.out).mono ?_
      rintro e wh ⟨vh, rfl, hh, hbh⟩
      obtain ⟨Ah, ch, rfl, _⟩ := id hh
      have HZh := Lib.hid (HZe2.out.next hbh)
      have HBh := Lib.hid (HBe.out.trans (hbh.mono HBe.out.size))
      have HAh := Lib.hid hh
      clear hh hbh
      go_wp2_with fail
      refine (refSame9 z (opS 2 f []) Az Ah _ cz _ ch wh HZh.out HAh.out).mono ?_
      rintro e wi ⟨rfl, qi, rfl⟩
      rw [decide_eq_true HZe.out]
      go_wp2_with fail
      go_ret
      exact ⟨rfl, below_dn HBh.out qi⟩

end Go.Proofs.Ytehokjaojanieaa
