/- norm's builder: upTo. -/
import Derived.Test.YtcghclikkeajfaaGreatMJ
import Derived.Test.YtcghclikkeajfaaGreatNormOr
import Derived.Deep.QuietTactic
import Derived.Deep.RegionHeld3
namespace Go.Proofs.YtcghclikkeajfaaGreat
open Go.RowKit Go.Shelf
set_option linter.unusedSimpArgs false
set_option linter.unusedVariables false

section
variable {AA : World → Value → List Nd → (Nat → Prop) → Prop}
/-- Between two rounds. -/
structure UJ (AA : World → Value → List Nd → (Nat → Prop) → Prop) (w : World) (a : Value) (ns : List Nd) (F : Nat → Prop) (e : Int) (n : Nat) (f : List Nat → Tbl) (i : Nat) (W : World) (more : List Nd) (F' : Nat → Prop) (r : Int) : Prop where
  ab : AA W a (ns ++ more) F'
  low : ∀ b, F' b → F b ∨ w.heap.size ≤ b
  off : OffF F w W
  canon : Canon (ns ++ more)
  inn : isIn (ns ++ more) e
  kde : kd (ns ++ more) e = 1
  few : more.length ≤ 1 + i * (2 * n + 5)
  up : UpI (ns ++ more) e n f i r

set_option maxRecDepth 100000 in
set_option maxHeartbeats 16000000 in
theorem bUpTo (S : ArenaMap AA) {w : World} {a : Value} {ns : List Nd} {F : Nat → Prop} {f : List Nat → Tbl} (g n m : Nat) (x : Int) (h : AA w a ns F) (hc : Canon ns) (hb : BAt w g a) (hgF : ¬ F g) (hx : isIn ns x) (wx : Wide ns n x) (hf : TabR ns x f) (hn : 1 ≤ n) (hm : m ≤ 1000) (hroom : ns.length + m * (2 * n + 5) + 2 * n + 12 ≤ 20000) :
    Calls Tryz.prog 79 #[.pointer (some ⟨g, 0, none⟩), .int .i64 x, .int .i64 m] w (Grows AA w a ns F fun more r => (∃ e, UpI (ns ++ more) e n f m r) ∧ more.length ≤ 1 + m * (2 * n + 5)) := by
  have HE := Lib.hid (nEmpty S.toArenaMid h hc (by omega))
  have HBa := Lib.hid hb
  have HgF := Lib.hid hgF
  have HX := Lib.hid hx
  have HWx := Lib.hid wx
  have HTf := Lib.hid hf
  have HC := Lib.hid hc
  have HRoom := Lib.hid hroom
  have HNn := Lib.hid hn
  have HMm := Lib.hid hm
  have HLw := Lib.hid (At.lt hb)
  have cb : w.cell? ⟨g, 0, none⟩ = some a := hb.cell 0
  obtain ⟨gp, rfl⟩ := S.ptr h
  have hxI : I64 x := by have := S.max h; unfold isIn at hx; unfold I64; omega
  clear h hc hb hgF hx wx hf hn hroom
  go_enter Tryz.func79, Tryz.ntmps79
  go_wp2_with fail
  refine HE.out.mono ?_
  rintro e w1 ⟨r0, m0, F1, rfl, g1, g2, g3, g4, g5, g6⟩
  have HJ0 : Hid (UJ AA w (.pointer (some ⟨gp, 0, none⟩)) ns F r0 n f 0 w1 m0 F1 r0) := Lib.hid ⟨g1, g2, g3, g4, g5, g6.1, by have := g6.2.1; omega, UpI.start g4 g5 g6.1⟩
  clear g1 g2 g3 g4 g5 g6 cb
  go_wp2_with fail
  go_loopw [8, 16] (fun x0 i wr => ∃ (j : Nat) (more : List Nd) (F' : Nat → Prop) (r : Int), j ≤ m ∧ i = .int .i64 j ∧ x0 = .int .i64 r ∧ Hid (UJ AA w (.pointer (some ⟨gp, 0, none⟩)) ns F r0 n f j wr more F' r)) (fun _ i _ => m - (intOf i).toNat)
  case atStart => exact ⟨0, m0, F1, r0, Nat.zero_le _, rfl, rfl, HJ0⟩
  case round =>
    obtain ⟨j, more, F', r, hj, rfl, rfl, HJ⟩ := hrel
    have hBW : BAt wr g (.pointer (some ⟨gp, 0, none⟩)) := HBa.out.off HgF.out HJ.out.off
    have cb : wr.cell? ⟨g, 0, none⟩ = some (.pointer (some ⟨gp, 0, none⟩)) := hBW.cell 0
    by_cases hjm : j < m
    · have hj0 : (0 : Int) ≤ (j : Int) := by omega
      have hj1 : (j : Int) < (m : Int) := by omega
      have HJm : Hid (ns.length + more.length + 2 * n + 2 * n + 16 ≤ 20000 + 2 * n ∧ more.length + (2 * n + 5) ≤ 1 + (j + 1) * (2 * n + 5)) := Lib.hid (by
        have h1 : (j + 1) * (2 * n + 5) ≤ m * (2 * n + 5) := Nat.mul_le_mul_right _ (by omega)
        have h2 : (j + 1) * (2 * n + 5) = j * (2 * n + 5) + (2 * n + 5) := by rw [Nat.add_mul, Nat.one_mul]
        have h3 := HRoom.out
        have h4 := HJ.out.few
        omega)
      have HCt : Hid (∀ W', Below wr.heap.size wr W' → Calls Tryz.prog 73 #[.pointer (some ⟨gp, 0, none⟩), .int .i64 x, .int .i64 r] W' (Grows AA wr (.pointer (some ⟨gp, 0, none⟩)) (ns ++ more) F' (CatG (ns ++ more) x r))) := Lib.hid (fun W' hb => by
        have h3 := HJm.out
        have h5 := HWx.out.1.1
        exact (nCat S.toArenaMid x r (S.next HJ.out.ab hb) HJ.out.canon (HX.out.up more) HJ.out.up.inn (by rw [catN_up HC.out.fine more HX.out, List.length_append]; omega)).mono (fun _ _ g => g.from hb))
      have HgB : Hid (g < wr.heap.size ∧ ¬ F' g) := Lib.hid ⟨At.lt hBW, fun z => by
        rcases HJ.out.low _ z with z | z
        · exact HgF.out z
        · have := HLw.out; omega⟩
      have HBw := Lib.hid hBW
      clear hBW
      go_wp2_with fail
      refine wp_region_noPanic ?_
      refine wp_region_held_drew (S := (fun w' => w'.cell? ⟨g, 0, none⟩ = some (.pointer (some ⟨gp, 0, none⟩)))) (by kernel_rfl) (by exact cb) (fun hHeld => ?_)
      refine wpAnyH_take (i := 0) (oi := ⟨some 18, _, _, _, _, _⟩) (v := ?_) rfl (by kernel_rfl) (by kernel_rfl) (by kernel_rfl) (fun _ _ _ h => h) (Or.inl ⟨by rfl, ?_⟩) (by exact hHeld) ?_
      rotate_left
      · (intro w hSw; (try dsimp only at hSw); go_simp; try (with_reducible rfl))
      simp only [Act.put, List.setIfInBounds_toArray, List.set_cons_zero, List.set_cons_succ]
      refine wpAnyH_take (i := 1) (oi := ⟨some 19, _, _, _, _, _⟩) (v := ?_) rfl (by kernel_rfl) (by kernel_rfl) (by kernel_rfl) (fun _ _ _ h => h) (Or.inl ⟨by rfl, ?_⟩) (by exact hHeld) ?_
      rotate_left
      · (intro w hSw; (try dsimp only at hSw); go_simp; try (with_reducible rfl))
      simp only [Act.put, List.setIfInBounds_toArray, List.set_cons_zero, List.set_cons_succ]
      refine wpAnyH_take (i := 2) (oi := ⟨some 20, _, _, _, _, _⟩) (v := ?_) rfl (by kernel_rfl) (by kernel_rfl) (by kernel_rfl) (fun _ _ _ h => h) (Or.inl ⟨by rfl, ?_⟩) (by exact hHeld) ?_
      rotate_left
      · (intro w hSw; (try dsimp only at hSw); go_simp; try (with_reducible rfl))
      simp only [Act.put, List.setIfInBounds_toArray, List.set_cons_zero, List.set_cons_succ]
      refine wpAnyH_take (i := 3) (oi := ⟨some 21, _, _, _, _, _⟩) (v := ?_) rfl (by kernel_rfl) (by kernel_rfl) (by kernel_rfl) (fun _ _ _ h => h) (Or.inl ⟨by rfl, ?_⟩) (by exact hHeld) ?_
      rotate_left
      · (intro w hSw; (try dsimp only at hSw); go_simp; try (with_reducible rfl))
      simp only [Act.put, List.setIfInBounds_toArray, List.set_cons_zero, List.set_cons_succ]
      refine wpAnyH_take (i := 4) (oi := ⟨some 22, _, _, _, _, _⟩) (v := ?_) rfl (by kernel_rfl) (by kernel_rfl) (by kernel_rfl) (fun _ _ _ h => h) (Or.inl ⟨by rfl, ?_⟩) (by exact hHeld) ?_
      rotate_left
      · (intro w hSw; (try dsimp only at hSw); go_simp; try (with_reducible rfl))
      simp only [Act.put, List.setIfInBounds_toArray, List.set_cons_zero, List.set_cons_succ]
      refine wpAnyH_take (i := 5) (oi := ⟨some 23, _, _, _, _, _⟩) (v := ?_) rfl (by kernel_rfl) (by kernel_rfl) (by kernel_rfl) (fun _ _ _ h => h) (Or.inl ⟨by rfl, ?_⟩) (by exact hHeld) ?_
      rotate_left
      · (intro w hSw; (try dsimp only at hSw); go_simp; try (with_reducible rfl))
      simp only [Act.put, List.setIfInBounds_toArray, List.set_cons_zero, List.set_cons_succ]
      refine wpAnyH_take (i := 6) (oi := ⟨some 24, _, _, _, _, _⟩) (v := ?_) rfl (by kernel_rfl) (by kernel_rfl) (by kernel_rfl) (fun _ _ _ h => h) (Or.inl ⟨by rfl, ?_⟩) (by exact hHeld) ?_
      rotate_left
      · (intro w hSw; (try dsimp only at hSw); go_simp; try (with_reducible rfl))
      simp only [Act.put, List.setIfInBounds_toArray, List.set_cons_zero, List.set_cons_succ]
      refine wpAnyH_take (i := 7) (oi := ⟨some 25, _, _, _, _, _⟩) (v := ?_) rfl (by kernel_rfl) (by kernel_rfl) (by kernel_rfl) (fun _ _ _ h => h) (Or.inl ⟨by rfl, ?_⟩) (by exact hHeld) ?_
      rotate_left
      · (intro w hSw; (try dsimp only at hSw); go_simp; try (with_reducible rfl))
      simp only [Act.put, List.setIfInBounds_toArray, List.set_cons_zero, List.set_cons_succ]
      refine wpAnyH_take (i := 8) (oi := ⟨some 26, _, _, _, _, _⟩) (v := ?_) rfl (by kernel_rfl) (by kernel_rfl) (by kernel_rfl) (fun _ _ _ h => h) (Or.inl ⟨by rfl, ?_⟩) (by exact hHeld) ?_
      rotate_left
      · (intro w hSw; (try dsimp only at hSw); go_simp; try (with_reducible rfl))
      simp only [Act.put, List.setIfInBounds_toArray, List.set_cons_zero, List.set_cons_succ]
      refine wpAnyH_take (i := 9) (oi := ⟨some 27, _, _, _, _, _⟩) (v := ?_) rfl (by kernel_rfl) (by kernel_rfl) (by kernel_rfl) (fun _ _ _ h => h) (Or.inl ⟨by rfl, ?_⟩) (by exact hHeld) ?_
      rotate_left
      · (intro w hSw; (try dsimp only at hSw); go_simp; try (with_reducible rfl))
      simp only [Act.put, List.setIfInBounds_toArray, List.set_cons_zero, List.set_cons_succ]
      refine wpAnyH_take (i := 10) (oi := ⟨some 28, _, _, _, _, _⟩) (v := ?_) rfl (by kernel_rfl) (by kernel_rfl) (by kernel_rfl) (fun _ _ _ h => h) (Or.inl ⟨by rfl, ?_⟩) (by exact hHeld) ?_
      rotate_left
      · (intro w hSw; (try dsimp only at hSw); go_simp; try (with_reducible rfl))
      simp only [Act.put, List.setIfInBounds_toArray, List.set_cons_zero, List.set_cons_succ]
      refine wpAnyH_ready (rs := [11]) (by kernel_rfl) (by simp) ?_
      refine AllReadyH.cons (o := ⟨some 29, _, _, _, _, _⟩) rfl (fun K hK => ?_) AllReadyH.nil
      go_simp
      ((with_reducible refine (HCt.out _ (Below.refl _ _).drew).mono ?_))
      rintro e W6 ⟨c, more2, F2, rfl, k1, k2, k3, k4, k5, k6⟩
      have hB6 : BAt W6 g (.pointer (some ⟨gp, 0, none⟩)) := (show BAt wr g (.pointer (some ⟨gp, 0, none⟩)) from HBw.out).off HgB.out.2 k3
      have cb : W6.cell? ⟨g, 0, none⟩ = some (.pointer (some ⟨gp, 0, none⟩)) := hB6.cell 0
      have hr0 := HJ.out.inn.up more2
      have hxm := (HX.out.up more).up more2
      have hup := HJ.out.up.up HJ.out.canon more2 HJ.out.inn
      have hwx := (HWx.out.up HC.out.fine more HX.out).up HJ.out.canon.fine more2 (HX.out.up more)
      have hkd : kd ((ns ++ more) ++ more2) r0 = 1 := by rw [kd_up HJ.out.inn]; exact HJ.out.kde
      have hwc := (up_cat k4 hxm hwx HNn.out hup k6.1).1
      have hmem := up_mem hkd hwc
      have hm2 : more2.length ≤ n := by have := k6.2.1; rw [catN_up HC.out.fine more HX.out] at this; exact Nat.le_trans this HWx.out.1.1
      have hbA : Below W6.heap.size W6 (W6.alloc (.cells #[.int .i64 r0, .int .i64 c] 3)) := (Below.refl _ _).alloc (Nat.le_refl _) _
      have HOr := (nOr S [r0, c] (S.next k1 hbA) k4 (list_two W6 r0 c 3) (fun y hy => by simp at hy; rcases hy with rfl | rfl; exact hr0; exact k5) (by have := HJm.out.1; rw [List.length_append, List.length_append]; omega)).mono (fun _ _ g => g.from hbA)
      have HOr := Lib.hid HOr
      have Hk1 := Lib.hid k1
      have Hk2 := Lib.hid k2
      have Hk3 := Lib.hid k3
      have Hk4 := Lib.hid k4
      have Hk6 := Lib.hid k6
      have Hup := Lib.hid hup
      have Hwx := Lib.hid hwx
      have Hkd := Lib.hid hkd
      have Hxm := Lib.hid hxm
      have Hr0 := Lib.hid hr0
      have Hmm := Lib.hid (And.intro hmem hm2)
      clear k1 k2 k3 k4 k5 k6 hup hwx hkd hxm hr0 hmem hm2 hwc hbA
      dsimp only
      refine hK.out _ _ ?_ (fun hHeld => ?_)
      · exact cb
      clear hK K
      try simp only [Act.put, List.setIfInBounds_toArray, List.set_cons_zero, List.set_cons_succ]
      refine wpAnyH_ready (rs := [12]) (by kernel_rfl) (by simp) ?_
      refine AllReadyH.cons (o := ⟨some 30, _, _, _, _, _⟩) rfl (fun K hK => ?_) AllReadyH.nil
      go_simp
      have cb : (W6.alloc (.cells #[.int .i64 r0, .int .i64 c] 3)).cell? ⟨g, 0, none⟩ = some (.pointer (some ⟨gp, 0, none⟩)) := (At.alloc hB6 _).cell 0
      refine hK.out _ _ ?_ (fun hHeld => ?_)
      · exact cb
      clear hK K
      try simp only [Act.put, List.setIfInBounds_toArray, List.set_cons_zero, List.set_cons_succ]
      refine wpAnyH_ready (rs := [13]) (by kernel_rfl) (by simp) ?_
      refine AllReadyH.cons (o := ⟨some 31, _, _, _, _, _⟩) rfl (fun K hK => ?_) AllReadyH.nil
      go_simp
      ((with_reducible refine HOr.out.mono ?_))
      rintro e W7 ⟨r2, more3, F3, rfl, l1, l2, l3, l4, l5, l6⟩
      have hlow1 : ∀ b, F2 b → F b ∨ w.heap.size ≤ b := fun b z => by
        rcases Hk2.out b z with z | z
        · exact HJ.out.low b z
        · exact Or.inr (Nat.le_trans HJ.out.off.size z)
      have ho1 : OffF F w W6 := HJ.out.off.off Hk3.out HJ.out.low
      have HU : Hid (UJ AA w (.pointer (some ⟨gp, 0, none⟩)) ns F r0 n f (j + 1) W7 (more ++ (more2 ++ more3)) F3 r2) := Lib.hid (by
        have ea : ns ++ (more ++ (more2 ++ more3)) = ((ns ++ more) ++ more2) ++ more3 := by simp [List.append_assoc]
        have hup3 := Hup.out.up Hk4.out more3 Hr0.out
        have hkd3 : kd (((ns ++ more) ++ more2) ++ more3) r0 = 1 := by rw [kd_up Hr0.out]; exact Hkd.out
        have htab : TabR (((ns ++ more) ++ more2) ++ more3) x f := ((HTf.out.up HX.out more).up (HX.out.up more) more2).up Hxm.out more3
        refine ⟨by rw [ea]; exact l1, fun b z => ?_, ho1.off l3 hlow1, by rw [ea]; exact l4, by rw [ea]; exact Hr0.out.up more3, by rw [ea]; exact hkd3, ?_, by rw [ea]; exact UpI.step l4 (Hr0.out.up more3) hkd3 (Hxm.out.up more3) (Hwx.out.up Hk4.out.fine more3 Hxm.out) htab HNn.out hup3 (Hk6.out.1.up Hk4.out.fine more3 Hxm.out Hup.out.inn) l6.1⟩
        · rcases l2 b z with z | z
          · exact hlow1 b z
          · exact Or.inr (Nat.le_trans ho1.size z)
        · have h1 := HJm.out.2
          have h2 := l6.2.1
          have h3 := Hmm.out
          rw [List.length_append, List.length_append]
          omega)
      have hB7 : BAt W7 g (.pointer (some ⟨gp, 0, none⟩)) := HBa.out.off HgF.out (show OffF F w W7 from HU.out.off)
      have cb : W7.cell? ⟨g, 0, none⟩ = some (.pointer (some ⟨gp, 0, none⟩)) := hB7.cell 0
      clear l1 l2 l3 l4 l5 l6 hlow1 ho1 hB7
      dsimp only
      refine hK.out _ _ ?_ (fun hHeld => ?_)
      · exact cb
      clear hK K
      try simp only [Act.put, List.setIfInBounds_toArray, List.set_cons_zero, List.set_cons_succ]
      refine wpAnyH_take (i := 14) (oi := ⟨some 8, _, _, _, _, _⟩) (v := ?_) rfl (by kernel_rfl) (by kernel_rfl) (by kernel_rfl) (fun _ _ _ h => h) (Or.inl ⟨by rfl, ?_⟩) (by exact hHeld) ?_
      rotate_left
      · (intro w hSw; (try dsimp only at hSw); go_simp; try (with_reducible rfl))
      simp only [Act.put, List.setIfInBounds_toArray, List.set_cons_zero, List.set_cons_succ]
      refine wpAnyH_done (by kernel_rfl) ?_ _
      refine NoPanic.normal ?_
      go_wp2_with fail
      exact ⟨⟨j + 1, _, F3, r2, by omega, by go_num, rfl, HU⟩, by simp [intOf] <;> omega⟩
    · obtain rfl : j = m := by omega
      go_wp2_with fail
      go_ret
      exact ⟨r, more, F', rfl, HJ.out.ab, HJ.out.low, HJ.out.off, HJ.out.canon, HJ.out.up.inn, ⟨r0, HJ.out.up⟩, HJ.out.few⟩
end

end Go.Proofs.YtcghclikkeajfaaGreat
