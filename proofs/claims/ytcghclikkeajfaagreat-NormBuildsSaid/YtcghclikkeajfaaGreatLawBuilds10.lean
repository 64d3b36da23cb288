/- bolterlaw10.NormBuilds, by what Build does. -/
import Derived.Test.YtcghclikkeajfaaGreatMv
import Derived.Test.YtcghclikkeajfaaGreatRefLooks
import Derived.Test.YtcghclikkeajfaaGreatMG
import Derived.Test.YtcghclikkeajfaaGreatRefSpans
import Derived.Test.YtcghclikkeajfaaGreatRefFormed
import Derived.Test.YtcghclikkeajfaaGreatRefSize
import Derived.Deep.QuietTactic
import Derived.BigQuiet
namespace Go.Proofs.YtcghclikkeajfaaGreat
open Go.RowKit
set_option linter.unusedSimpArgs false
set_option linter.unusedVariables false

theorem zero_bytes (n : Nat) (hn : n ≤ 1000) (w : World) (g : Nat) (t : TypeId) (h : At w g t (madeCells #[.int .u8 0] n)) : IsBytes w (some ⟨g, 0, none⟩) n (List.replicate n 0) :=
  ⟨by simp, by omega, fun k hk => by simp, fun h0 => ⟨g, 0, rfl, h.lt, fun k hk => by
    have hk : k < n := by simpa using hk
    rw [h.cell, Nat.zero_add]
    unfold madeCells
    simp [hk, Nat.mod_one]⟩⟩
theorem info_u8 : (Tryz.prog.info? 5).map (fun i => (i.zero, i.size, i.bytes)) = some (some (.int .u8 0), 1, 1) := by kernel_rfl
theorem make_u8 (n : Nat) (hn : n ≤ 900) (W : World) : (Instr.makeSlice 28 (.int .i64 ((n : Int) + 1)) (.int .i64 ((n : Int) + 1))).run Tryz.prog W = .ok (.slice (some ⟨W.heap.size, 0, none⟩) (n + 1) (n + 1)) (W.alloc (.cells (madeCells #[.int .u8 0] (n + 1)) 5)) := by
  have h := run_make_row' (P := Tryz.prog) 28 5 (.int .u8 0) 1 Tryz.underlying28 info_u8 rfl .i64 .i64 (n + 1) (by omega) (by omega) W
  rw [show ((n + 1 : Nat) : Int) = (n : Int) + 1 by omega] at h
  exact h

set_option maxRecDepth 100000 in
set_option maxHeartbeats 8000000 in
theorem lawSameT (n ga gb ba bb : Nat) (ra rb : Nat → Nat) (f g : Nat → Nat → Bool) (w : World) (hn : n ≤ 100) (ha : TabAt w 63 4 ba ga n ra f) (hb : TabAt w 63 4 bb gb n rb g) (h : ∀ i j, i < n → j < n → f i j = g i j) :
    Calls Tryz.prog 12 #[.slice (some ⟨ga, 0, none⟩) n n, .slice (some ⟨gb, 0, none⟩) n n] w fun e w' => e = .returned (.bool true) ∧ Below w.heap.size w w' := by
  have HA := Lib.hid ha
  have HB := Lib.hid hb
  have HE := Lib.hid h
  clear ha hb h
  go_enter Tryz.func12, Tryz.ntmps12
  go_wp2_with fail
  go_loopw [9] (fun x wr => ∃ i : Nat, i ≤ n ∧ x = .int .i64 i ∧ Hid (wr.heap = w.heap) ∧ Hid (Below w.heap.size w wr)) (fun x _ => n - (intOf x).toNat)
  case atStart => exact ⟨0, Nat.zero_le _, rfl, Lib.hid rfl, Lib.hid (Below.refl _ _)⟩
  case round =>
    obtain ⟨i, hi, rfl, HW, HBl⟩ := hrel
    by_cases hin : i < n
    · have hi0 : (0 : Int) ≤ (i : Int) := by omega
      have hi1 : (i : Int) < (n : Int) := by omega
      obtain ⟨wo, hwo⟩ : ∃ wo, wo = wr := ⟨_, rfl⟩
      rw [← hwo] at HW HBl ⊢
      clear hwo
      go_wp2_with fail
      go_loopw [14] (fun x wr => ∃ j : Nat, j ≤ n ∧ x = .int .i64 j ∧ Hid (wr.heap = w.heap) ∧ Hid (Below w.heap.size w wr)) (fun x _ => n - (intOf x).toNat)
      case atStart => exact ⟨0, Nat.zero_le _, rfl, HW, HBl⟩
      case round =>
        clear HW HBl
        obtain ⟨j, hj, rfl, HW, HBl⟩ := hrel
        by_cases hjn : j < n
        · have hj0 : (0 : Int) ≤ (j : Int) := by omega
          have hj1 : (j : Int) < (n : Int) := by omega
          have hA := HA.out.same HW.out
          have hB := HB.out.same HW.out
          have t0 := hA.cellTop hin
          have t1 := hA.cellRow hin hjn
          have t2 := hB.cellTop hin
          have t3 := hB.cellRow hin hjn
          rw [HE.out i j hin hjn] at t1
          obtain ⟨x, hx⟩ : ∃ x, g i j = x := ⟨_, rfl⟩
          rw [hx] at t1 t3
          clear hA hB hx
          go_wp2_with fail
          go_quiet (fail)
          cases x <;>
          · go_wp2_with fail
            exact ⟨⟨j + 1, by omega, by go_num, Lib.hid HW.out, Lib.hid (below_drewN' HBl.out _)⟩, by simp [intOf] <;> omega⟩
        · obtain rfl : j = n := by omega
          go_wp2_with fail
          exact ⟨⟨i + 1, by omega, by go_num, HW, HBl⟩, by simp [intOf] <;> omega⟩
    · obtain rfl : i = n := by omega
      go_wp2_with fail
      go_ret
      exact ⟨rfl, HBl.out⟩
theorem formed_of10 {k : Nat} {t : Tr} (h : isFormed k t = true) : formedS k t = true := by
  unfold isFormed at h
  rw [Bool.and_eq_true, Bool.and_eq_true] at h
  exact h.2.1

section
variable {AA : World → Value → List Nd → (Nat → Prop) → Prop}

set_option maxRecDepth 100000 in
set_option maxHeartbeats 16000000 in
theorem lawBuilds10 (S : ArenaBig AA) (N : NormSpec AA) (B : BuildSpec AA) (k : Nat) (t : Tr) (A : Option Addr) (n c : Nat) (l : List Nat) (w : World) (h : Tr.Ins w k t) (hb : IsBytes w A n l) :
    Calls Tryz.prog 3 #[.agg t.cs.toArray, .slice A n c] w fun e w' => e = .returned (.bool true) ∧ Below w.heap.size w w' := by
  have HIs := Lib.hid h
  have HI := Lib.hid h.1
  have HBy := Lib.hid hb
  have HLn := Lib.hid hb.1
  have hn63 := hb.2.1
  have hA : At (w.alloc (Obj.cells t.cs.toArray 27)) w.heap.size 27 t.cs.toArray := At.new _ _ _
  have hB : Below w.heap.size w (w.alloc (Obj.cells t.cs.toArray 27)) := (Below.refl _ _).alloc (Nat.le_refl _) _
  clear h hb
  by_cases hc : nodesS k 60 t ≤ 2000
  · have HC : Hid (decide (nodesS k 60 t ≤ 2000) = true) := Lib.hid (decide_eq_true hc)
    have HSl := Lib.hid (few_slim k 60 t HI.out (by omega) hc)
    have HNn := Lib.hid (few_nodes k 60 t HI.out (by omega) hc)
    have HCc := Lib.hid hc
    clear hc
    by_cases hl : 6 < n
    · have hl1 : (6 : Int) < (n : Int) := by omega
      have hl2 : decide (6 < n) = true := decide_eq_true hl
      have hl3 : decide ((6 : Int) < (n : Int)) = true := decide_eq_true hl1
      go_enter Tryz.func3, Tryz.ntmps3
      go_wp2_with fail
      refine (lawAwake10 S N _).mono ?_
      rintro e w1 ⟨rfl, hb⟩
      have hA := hA.step hb rfl
      have hB := below_step hB hb rfl rfl rfl rfl
      clear hb
      go_wp2_with (first
        | ((with_reducible show wpList _ _ _ ({ dst := _, op := .load 27 _, type := _, pos := _, after := _, guard := _ } :: _) _ _); refine wpList_load_row_want (by rfl) 27 _ rfl w.heap.size rfl 27 t.cs.toArray (0, 0) _ hA Tryz.underlying27 rfl (by kernel_rfl) ?_)
        | fail)
      refine (lawFew k 60 t _ (by omega) (by omega) (HI.out.next hB)).mono ?_
      rintro e w2 ⟨rfl, hb⟩
      have hA := hA.step hb rfl
      have hB := below_step hB hb rfl rfl rfl rfl
      clear hb
      rw [HC.out]
      go_wp2_with fail
      refine (lawAwake10 S N _).mono ?_
      rintro e w8 ⟨rfl, hb⟩
      have hA := hA.step hb rfl
      have hB := below_step hB hb rfl rfl rfl rfl
      clear hb
      have HB := Lib.hid hB
      clear hA hB
      go_wp2_with fail
      go_ret
      exact ⟨rfl, HB.out⟩
    · have hl1 : ¬ (6 : Int) < (n : Int) := by omega
      have hl2 : decide (6 < n) = false := decide_eq_false hl
      have hl3 : decide ((6 : Int) < (n : Int)) = false := decide_eq_false hl1
      by_cases hz : 150 < sizeS k t
      · obtain ⟨z, hzz⟩ : ∃ z, sizeS k t = z := ⟨_, rfl⟩
        have HZz := Lib.hid hzz
        rw [hzz] at hz
        have hz1 : decide (150 < z) = true := decide_eq_true hz
        clear hzz
        go_enter Tryz.func3, Tryz.ntmps3
        go_wp2_with fail
        refine (lawAwake10 S N _).mono ?_
        rintro e w1 ⟨rfl, hb⟩
        have hA := hA.step hb rfl
        have hB := below_step hB hb rfl rfl rfl rfl
        clear hb
        go_wp2_with (first
          | ((with_reducible show wpList _ _ _ ({ dst := _, op := .load 27 _, type := _, pos := _, after := _, guard := _ } :: _) _ _); refine wpList_load_row_want (by rfl) 27 _ rfl w.heap.size rfl 27 t.cs.toArray (0, 0) _ hA Tryz.underlying27 rfl (by kernel_rfl) ?_)
          | fail)
        refine (lawFew k 60 t _ (by omega) (by omega) (HI.out.next hB)).mono ?_
        rintro e w2 ⟨rfl, hb⟩
        have hA := hA.step hb rfl
        have hB := below_step hB hb rfl rfl rfl rfl
        clear hb
        rw [HC.out]
        go_wp2_with (first
          | ((with_reducible show wpList _ _ _ ({ dst := _, op := .load 27 _, type := _, pos := _, after := _, guard := _ } :: _) _ _); refine wpList_load_row_want (by rfl) 27 _ rfl w.heap.size rfl 27 t.cs.toArray (0, 0) _ hA Tryz.underlying27 rfl (by kernel_rfl) ?_)
          | fail)
        refine (refSize k t _ (HI.out.next hB)).mono ?_
        rintro e w3 ⟨rfl, hb⟩
        have hA := hA.step hb rfl
        have hB := below_step hB hb rfl rfl rfl rfl
        clear hb
        rw [HZz.out]
        go_wp2_with fail
        refine (lawAwake10 S N _).mono ?_
        rintro e w8 ⟨rfl, hb⟩
        have hA := hA.step hb rfl
        have hB := below_step hB hb rfl rfl rfl rfl
        clear hb
        have HB := Lib.hid hB
        clear hA hB
        go_wp2_with fail
        go_ret
        exact ⟨rfl, HB.out⟩
      · obtain ⟨z, hzz⟩ : ∃ z, sizeS k t = z := ⟨_, rfl⟩
        have HZz := Lib.hid hzz
        have HZ150 := Lib.hid (show sizeS k t ≤ 150 by omega)
        rw [hzz] at hz
        have hz1 : decide (150 < z) = false := decide_eq_false hz
        clear hzz
        go_enter Tryz.func3, Tryz.ntmps3
        go_wp2_with fail
        refine (lawAwake10 S N _).mono ?_
        rintro e w1 ⟨rfl, hb⟩
        have hA := hA.step hb rfl
        have hB := below_step hB hb rfl rfl rfl rfl
        clear hb
        go_wp2_with (first
          | ((with_reducible show wpList _ _ _ ({ dst := _, op := .load 27 _, type := _, pos := _, after := _, guard := _ } :: _) _ _); refine wpList_load_row_want (by rfl) 27 _ rfl w.heap.size rfl 27 t.cs.toArray (0, 0) _ hA Tryz.underlying27 rfl (by kernel_rfl) ?_)
          | fail)
        refine (lawFew k 60 t _ (by omega) (by omega) (HI.out.next hB)).mono ?_
        rintro e w2 ⟨rfl, hb⟩
        have hA := hA.step hb rfl
        have hB := below_step hB hb rfl rfl rfl rfl
        clear hb
        rw [HC.out]
        go_wp2_with (first
          | ((with_reducible show wpList _ _ _ ({ dst := _, op := .load 27 _, type := _, pos := _, after := _, guard := _ } :: _) _ _); refine wpList_load_row_want (by rfl) 27 _ rfl w.heap.size rfl 27 t.cs.toArray (0, 0) _ hA Tryz.underlying27 rfl (by kernel_rfl) ?_)
          | fail)
        refine (refSize k t _ (HI.out.next hB)).mono ?_
        rintro e w3 ⟨rfl, hb⟩
        have hA := hA.step hb rfl
        have hB := below_step hB hb rfl rfl rfl rfl
        clear hb
        rw [HZz.out]
        go_wp2_with fail
        refine (S.new _).mono ?_
        rintro e w4 ⟨a, F, rfl, hA4, hF4, hb4⟩
        have hlt0 := hA.lt
        have HF4 : Hid (∀ b, F b → w.heap.size < b) := Lib.hid (fun b q => by have := hF4 b q; omega)
        have hA := hA.step hb4 rfl
        have hB := below_step hB hb4 rfl rfl rfl rfl
        have HA4 := Lib.hid hA4
        clear hb4 hA4 hF4 hlt0
        go_wp2_with (first
          | ((with_reducible show wpList _ _ _ ({ dst := _, op := .load 27 _, type := _, pos := _, after := _, guard := _ } :: _) _ _); refine wpList_load_row_want (by rfl) 27 _ rfl w.heap.size rfl 27 t.cs.toArray (0, 0) _ hA Tryz.underlying27 rfl (by kernel_rfl) ?_)
          | fail)
        refine (refLooks k k t (.slice none 0 0) [] _ (Nat.le_refl _) (HI.out.next hB) (Pats.nil _ _) (by have h1 := HNn.out; have h2 := HCc.out; simp; omega)).mono ?_
        rintro e w5 ⟨vl, L2, rfl, hp5, _, hlk5, hb5⟩
        have hA := hA.step hb5 rfl
        have hB := below_step hB hb5 rfl rfl rfl rfl
        have HA5 := Lib.hid (S.next HA4.out hb5)
        have HLk : Hid (0 < L2.length ↔ lookB k t = true) := Lib.hid (by rw [hlk5]; simp)
        obtain ⟨Al, cl, hvl, _, _⟩ := id hp5
        subst hvl
        clear hb5 hlk5 hp5
        cases hfo : isFormed k t
        · have HFo := Lib.hid hfo
          clear hfo
          go_wp2_with (first
            | ((with_reducible show wpList _ _ _ ({ dst := _, op := .load 27 _, type := _, pos := _, after := _, guard := _ } :: _) _ _); refine wpList_load_row_want (by rfl) 27 _ rfl w.heap.size rfl 27 t.cs.toArray (0, 0) _ hA Tryz.underlying27 rfl (by kernel_rfl) ?_)
            | fail)
          refine (B.no k t HA5.out (HIs.out.next hB) HSl.out HFo.out).mono ?_
          rintro e w6 ⟨rfl, ho6⟩
          have hA : At w6 w.heap.size 27 t.cs.toArray := (ho6.block _ hA.lt (fun q => by have := HF4.out _ q; omega)).trans hA
          have hB := hB.trans (ho6.below (fun b q => by have := HF4.out b q; omega) hB.size)
          clear ho6
          go_wp2_with (first
            | ((with_reducible show wpList _ _ _ ({ dst := _, op := .load 27 _, type := _, pos := _, after := _, guard := _ } :: _) _ _); refine wpList_load_row_want (by rfl) 27 _ rfl w.heap.size rfl 27 t.cs.toArray (0, 0) _ hA Tryz.underlying27 rfl (by kernel_rfl) ?_)
            | fail)
          refine (refFormed k t _ (HI.out.next hB)).mono ?_
          rintro e w7 ⟨rfl, hb⟩
          have hA := hA.step hb rfl
          have hB := below_step hB hb rfl rfl rfl rfl
          clear hb
          rw [HFo.out]
          have HB := Lib.hid hB
          clear hA hB
          go_wp2_with fail
          go_ret
          exact ⟨rfl, HB.out⟩
        · have HFo := Lib.hid hfo
          clear hfo
          cases hlk : lookB k t
          · have HLk0 := Lib.hid hlk
            have hlen0 : L2.length = 0 := by
              have := HLk.out
              rw [hlk] at this
              have : ¬ 0 < L2.length := fun q => by have := this.1 q; cases this
              omega
            rw [hlen0]
            clear hlk hlen0
            go_wp2_with (first
              | ((with_reducible show wpList _ _ _ ({ dst := _, op := .load 27 _, type := _, pos := _, after := _, guard := _ } :: _) _ _); refine wpList_load_row_want (by rfl) 27 _ rfl w.heap.size rfl 27 t.cs.toArray (0, 0) _ hA Tryz.underlying27 rfl (by kernel_rfl) ?_)
              | fail)
            refine (B.ok k t HA5.out (HIs.out.next hB) HSl.out HFo.out HLk0.out HZ150.out).mono ?_
            rintro e w6 ⟨id, ns, F5, rfl, hA6, hF6, ho6, hin6, hsp6⟩
            have hA : At w6 w.heap.size 27 t.cs.toArray := (ho6.block _ hA.lt (fun q => by have := HF4.out _ q; omega)).trans hA
            have hB := hB.trans (ho6.below (fun b q => by have := HF4.out b q; omega) hB.size)
            have HA6 := Lib.hid hA6
            have HSp6 := Lib.hid hsp6
            obtain ⟨i, rfl⟩ : ∃ i : Nat, id = (i : Int) := ⟨id.toNat, by unfold isIn at hin6; omega⟩
            have HIn : Hid (i < ns.length) := Lib.hid (by unfold isIn at hin6; omega)
            have HOk : Hid (∀ j, j < ns.length → NdOk (ndAt ns j) j) := Lib.hid (fun j hj => (S.fine HA6.out).ok j hj)
            clear ho6 hA6 hF6 hin6 hsp6 HA5
            go_wp2_with (first
              | ((with_reducible show wpList _ _ _ ({ dst := _, op := .load 27 _, type := _, pos := _, after := _, guard := _ } :: _) _ _); refine wpList_load_row_want (by rfl) 27 _ rfl w.heap.size rfl 27 t.cs.toArray (0, 0) _ hA Tryz.underlying27 rfl (by kernel_rfl) ?_)
              | fail)
            refine (refFormed k t _ (HI.out.next hB)).mono ?_
            rintro e w7 ⟨rfl, hb⟩
            have hA := hA.step hb rfl
            have hB := below_step hB hb rfl rfl rfl rfl
            have HA7 := Lib.hid (S.next HA6.out hb)
            clear hb
            rw [HFo.out]
            go_wp2_with fail
            refine (S.len HA7.out).mono ?_
            rintro e w8 ⟨rfl, q8, rfl⟩
            have hA := hA.drewN q8
            have hB := below_drewN' hB q8
            have HA8 : Hid (AA (w7.drewN q8) a ns F5) := Lib.hid (S.keep HA7.out (fun _ _ => rfl))
            have hi0 : (0 : Int) ≤ (i : Int) := by omega
            have hi1 : ¬ (ns.length : Int) ≤ (i : Int) := by have := HIn.out; omega
            have hi2 : decide ((ns.length : Int) ≤ (i : Int)) = false := decide_eq_false hi1
            have hi3 : ¬ ns.length ≤ i := by have := HIn.out; omega
            have hmk := make_u8 n (by omega)
            have HZ0 := Lib.hid (At.new (w7.drewN q8) 5 (madeCells #[.int .u8 0] (n + 1)))
            have hA9 := hA.alloc (.cells (madeCells #[.int .u8 0] (n + 1)) 5)
            have hB9 := hB.alloc hB.size (.cells (madeCells #[.int .u8 0] (n + 1)) 5)
            have HA9 := Lib.hid (S.next HA8.out ((Below.refl _ _).alloc (Nat.le_refl _) (.cells (madeCells #[.int .u8 0] (n + 1)) 5)))
            clear hA hB
            have HAh := Lib.hid hA9
            have HBh := Lib.hid hB9
            clear hA9 hB9
            have HEq : Hid (∀ x y, x < n + 1 → y < n + 1 → nodeT l (List.replicate (n + 1) 0) ns i x y = spansS l k t x y) := Lib.hid (fun x y hx hy => by
              have e := HLn.out
              have := HSp6.out l (fun b hb => by obtain ⟨j, hj, rfl⟩ := List.getElem_of_mem hb; exact HBy.out.2.2.1 j hj) (by omega) x y (by omega) (by omega)
              rw [← e] at this
              exact this)
            have HSp : Hid (∀ w', Tr.In w' k t → IsBytes w' A n l → Calls Tryz.prog 15 #[.agg t.cs.toArray, .slice A n c] w' (Tabled w' (n + 1) (spansS l k t))) := Lib.hid (fun w' hi hby => by
              obtain rfl := HLn.out
              exact refSpans l k t A c w' hi HSl.out (formed_of10 HFo.out) hby (by omega))
            go_wp2_with fail
            clear hmk
            obtain ⟨wo, hwo⟩ : ∃ wo, wo = (w7.drewN q8).alloc (.cells (madeCells #[.int .u8 0] (n + 1)) 5) := ⟨_, rfl⟩
            try change Code.wp _ _ _ _ ((w7.drewN q8).alloc (.cells (madeCells #[.int .u8 0] (n + 1)) 5))
            have hA := HAh.out
            have hB := HBh.out
            have HA5 := HA9
            have HZ : Hid (At ((w7.drewN q8).alloc (.cells (madeCells #[.int .u8 0] (n + 1)) 5)) w7.heap.size 5 (madeCells #[.int .u8 0] (n + 1))) := HZ0
            obtain ⟨gz, hgz⟩ : ∃ gz, gz = w7.heap.size := ⟨_, rfl⟩
            rw [← hgz] at HZ
            rw [← hwo] at hA hB HA5 HZ ⊢
            try rw [← hgz]
            clear hwo HAh HBh HA9 HZ0 HA8 hgz
            have hBo : Below wo.heap.size wo wo := Below.refl _ _
            refine wp_region_noPanic ?_
            refine wp_region_held_drew (S := (fun w' => w'.rangeAt w.heap.size 0 t.cs)) (by kernel_rfl) (by first | exact tr_at_range (hA.below hBo hA.lt) | exact tr_at_range (hA.below hBo.drew hA.lt)) (fun hHeld => ?_)
            have hBo := hBo.drew
            refine wpAnyH_take (i := 0) (oi := ⟨some 67, _, _, _, _, _⟩) (v := ?_) rfl (by kernel_rfl) (by kernel_rfl) (by kernel_rfl) (fun _ _ _ h => h) (Or.inl ⟨by rfl, ?_⟩) (by exact hHeld) ?_
            rotate_left
            · (intro w hSw; (try dsimp only at hSw); go_simp; try (with_reducible rfl))
            simp only [Act.put, List.setIfInBounds_toArray, List.set_cons_zero, List.set_cons_succ]
            refine wpAnyH_take (i := 2) (oi := ⟨some 69, _, _, _, _, _⟩) (v := ?_) rfl (by kernel_rfl) (by kernel_rfl) (by kernel_rfl) (fun _ _ _ h => h) (Or.inl ⟨by rfl, ?_⟩) (by exact hHeld) ?_
            rotate_left
            · (intro w hSw; (try dsimp only at hSw); go_simp; try (with_reducible rfl))
            simp only [Act.put, List.setIfInBounds_toArray, List.set_cons_zero, List.set_cons_succ]
            refine wpAnyH_take (i := 3) (oi := ⟨some 70, _, _, _, _, _⟩) (v := ?_) rfl (by kernel_rfl) (by kernel_rfl) (by kernel_rfl) (fun _ _ _ h => h) (Or.inl ⟨by rfl, ?_⟩) (by exact hHeld) ?_
            rotate_left
            · (intro w hSw; (try dsimp only at hSw); go_simp; try (with_reducible rfl))
            simp only [Act.put, List.setIfInBounds_toArray, List.set_cons_zero, List.set_cons_succ]
            refine wpAnyH_take (i := 5) (oi := ⟨some 72, _, _, _, _, _⟩) (v := ?_) rfl (by kernel_rfl) (by kernel_rfl) (by kernel_rfl) (fun _ _ _ h => h) (Or.inl ⟨by rfl, ?_⟩) (by exact hHeld) ?_
            rotate_left
            · (intro w hSw; (try dsimp only at hSw); go_simp; try (with_reducible rfl))
            simp only [Act.put, List.setIfInBounds_toArray, List.set_cons_zero, List.set_cons_succ]
            refine wpAnyH_take (i := 8) (oi := ⟨some 75, _, _, _, _, _⟩) (v := _) rfl (by kernel_rfl) (by kernel_rfl) (by kernel_rfl) (fun _ _ _ h => h) (yieldsIf_load_mid (by rfl) 27 _ rfl w.heap.size 0 rfl t.cs _ (fun _ h => h) Tryz.underlying27 rfl (by rw [Tr.cs_length]; kernel_rfl)) (by exact hHeld) ?_
            simp only [Act.put, List.setIfInBounds_toArray, List.set_cons_zero, List.set_cons_succ]
            refine wpAnyH_take (i := 9) (oi := ⟨some 76, _, _, _, _, _⟩) (v := ?_) rfl (by kernel_rfl) (by kernel_rfl) (by kernel_rfl) (fun _ _ _ h => h) (Or.inl ⟨by rfl, ?_⟩) (by exact hHeld) ?_
            rotate_left
            · (intro w hSw; (try dsimp only at hSw); go_simp; try (with_reducible rfl))
            simp only [Act.put, List.setIfInBounds_toArray, List.set_cons_zero, List.set_cons_succ]
            refine wpAnyH_ready (rs := [1]) (by kernel_rfl) (by simp) ?_
            refine AllReadyH.cons (o := ⟨some 68, _, _, _, _, _⟩) rfl (fun K hK => ?_) AllReadyH.nil
            go_simp
            ((with_reducible refine (refNodesB S ns _ F5 (S.max HA5.out) _ (S.next HA5.out hBo)).mono ?_))
            rintro e wa ⟨v7, rfl, hn7, hba⟩
            obtain ⟨A7, c7, hv7, h7a, h7b⟩ := hn7.nds (by have := S.max HA5.out; omega)
            subst hv7
            have hn7 : NdsAt wa (.slice A7 ns.length c7) ns := ⟨A7, c7, rfl, h7a, h7b⟩
            have hBo := below_step hBo hba rfl rfl rfl rfl
            clear hba h7a h7b
            dsimp only
            refine hK.out _ _ ?_ (fun hHeld => ?_)
            · first | exact tr_at_range (hA.below hBo hA.lt) | exact tr_at_range (hA.below hBo.drew hA.lt)
            clear hK K
            try simp only [Act.put, List.setIfInBounds_toArray, List.set_cons_zero, List.set_cons_succ]
            refine wpAnyH_ready (rs := [4]) (by kernel_rfl) (by simp) ?_
            refine AllReadyH.cons (o := ⟨some 71, _, _, _, _, _⟩) rfl (fun K hK => ?_) AllReadyH.nil
            go_simp
            ((with_reducible refine (spansN ns l (List.replicate (n + 1) 0) A7 A (some ⟨gz, 0, none⟩) c7 c (n + 1) n (n + 1) i HLn.out rfl (by omega) (by have := S.max HA5.out; omega) HOk.out HIn.out _ hn7 (HBy.out.below (hB.trans (hBo.mono hB.size))) (zero_bytes (n + 1) (by omega) _ gz 5 (HZ.out.below hBo HZ.out.lt))).mono ?_))
            rintro e wb ⟨g, m, cap, ga, ra, rfl, him, hc, ht, hg, hbb⟩
            have him1 : (i : Int) < (m : Int) := by omega
            have hBo := below_step hBo hbb rfl rfl rfl rfl
            clear hbb hn7
            dsimp only
            refine hK.out _ _ ?_ (fun hHeld => ?_)
            · first | exact tr_at_range (hA.below hBo hA.lt) | exact tr_at_range (hA.below hBo.drew hA.lt)
            clear hK K
            try simp only [Act.put, List.setIfInBounds_toArray, List.set_cons_zero, List.set_cons_succ]
            refine wpAnyH_take (i := 6) (oi := ⟨some 73, _, _, _, _, _⟩) (v := ?_) rfl (by kernel_rfl) (by kernel_rfl) (by kernel_rfl) (fun _ _ _ h => h) (Or.inl ⟨by rfl, ?_⟩) (by exact hHeld) ?_
            rotate_left
            · (intro w hSw; (try dsimp only at hSw); go_simp; try (with_reducible rfl))
            simp only [Act.put, List.setIfInBounds_toArray, List.set_cons_zero, List.set_cons_succ]
            refine wpAnyH_ready (rs := [7, 10]) (by kernel_rfl) (by simp) ?_
            refine AllReadyH.cons (o := ⟨some 74, _, _, _, _, _⟩) rfl (fun K hK => ?_) ?_
            · go_simp
              refine hK.out _ _ ?_ (fun hHeld => ?_)
              · first | exact tr_at_range (hA.below hBo hA.lt) | exact tr_at_range (hA.below hBo.drew hA.lt)
              clear hK K
              try simp only [Act.put, List.setIfInBounds_toArray, List.set_cons_zero, List.set_cons_succ]
              refine wpAnyH_ready (rs := [10]) (by kernel_rfl) (by simp) ?_
              refine AllReadyH.cons (o := ⟨some 77, _, _, _, _, _⟩) rfl (fun K hK => ?_) AllReadyH.nil
              go_simp
              ((with_reducible refine (HSp.out _ (HI.out.next (hB.trans (hBo.mono hB.size))) (HBy.out.below (hB.trans (hBo.mono hB.size)))).mono ?_))
              rintro e wc ⟨gs, rs, rfl, hts, hbc⟩
              have hc := ((bcell hbc).1 g _ hg).trans hc
              have ht := ht.step hbc rfl
              have hg := Nat.lt_of_lt_of_le hg hbc.size
              have hBo := below_step hBo hbc rfl rfl rfl rfl
              clear hbc
              dsimp only
              refine hK.out _ _ ?_ (fun hHeld => ?_)
              · first | exact tr_at_range (hA.below hBo hA.lt) | exact tr_at_range (hA.below hBo.drew hA.lt)
              clear hK K
              try simp only [Act.put, List.setIfInBounds_toArray, List.set_cons_zero, List.set_cons_succ]
              refine wpAnyH_ready (rs := [11]) (by kernel_rfl) (by simp) ?_
              refine AllReadyH.cons (o := ⟨some 78, _, _, _, _, _⟩) rfl (fun K hK => ?_) AllReadyH.nil
              go_simp
              ((with_reducible refine (lawSameT (n + 1) ga gs _ _ ra rs _ _ _ (by omega) ht hts HEq.out).mono ?_))
              rintro e wd ⟨rfl, hbd⟩
              have hBo := below_step hBo hbd rfl rfl rfl rfl
              clear hbd
              dsimp only
              refine hK.out _ _ ?_ (fun hHeld => ?_)
              · first | exact tr_at_range (hA.below hBo hA.lt) | exact tr_at_range (hA.below hBo.drew hA.lt)
              clear hK K
              try simp only [Act.put, List.setIfInBounds_toArray, List.set_cons_zero, List.set_cons_succ]
              refine wpAnyH_take (i := 12) (oi := ⟨some 4, _, _, _, _, _⟩) (v := ?_) rfl (by kernel_rfl) (by kernel_rfl) (by kernel_rfl) (fun _ _ _ h => h) (Or.inl ⟨by rfl, ?_⟩) (by exact hHeld) ?_
              rotate_left
              · (intro w hSw; (try dsimp only at hSw); go_simp; try (with_reducible rfl))
              simp only [Act.put, List.setIfInBounds_toArray, List.set_cons_zero, List.set_cons_succ]
              refine wpAnyH_done (by kernel_rfl) ?_ _
              refine NoPanic.normal ?_
              go_wp2_with fail
              go_ret
              exact ⟨rfl, hB.trans (hBo.mono hB.size)⟩
            refine AllReadyH.cons (o := ⟨some 77, _, _, _, _, _⟩) rfl (fun K hK => ?_) AllReadyH.nil
            · go_simp
              ((with_reducible refine (HSp.out _ (HI.out.next (hB.trans (hBo.mono hB.size))) (HBy.out.below (hB.trans (hBo.mono hB.size)))).mono ?_))
              rintro e wc ⟨gs, rs, rfl, hts, hbc⟩
              have hc := ((bcell hbc).1 g _ hg).trans hc
              have ht := ht.step hbc rfl
              have hg := Nat.lt_of_lt_of_le hg hbc.size
              have hBo := below_step hBo hbc rfl rfl rfl rfl
              clear hbc
              dsimp only
              refine hK.out _ _ ?_ (fun hHeld => ?_)
              · first | exact tr_at_range (hA.below hBo hA.lt) | exact tr_at_range (hA.below hBo.drew hA.lt)
              clear hK K
              try simp only [Act.put, List.setIfInBounds_toArray, List.set_cons_zero, List.set_cons_succ]
              refine wpAnyH_ready (rs := [7]) (by kernel_rfl) (by simp) ?_
              refine AllReadyH.cons (o := ⟨some 74, _, _, _, _, _⟩) rfl (fun K hK => ?_) AllReadyH.nil
              go_simp
              refine hK.out _ _ ?_ (fun hHeld => ?_)
              · first | exact tr_at_range (hA.below hBo hA.lt) | exact tr_at_range (hA.below hBo.drew hA.lt)
              clear hK K
              try simp only [Act.put, List.setIfInBounds_toArray, List.set_cons_zero, List.set_cons_succ]
              refine wpAnyH_ready (rs := [11]) (by kernel_rfl) (by simp) ?_
              refine AllReadyH.cons (o := ⟨some 78, _, _, _, _, _⟩) rfl (fun K hK => ?_) AllReadyH.nil
              go_simp
              ((with_reducible refine (lawSameT (n + 1) ga gs _ _ ra rs _ _ _ (by omega) ht hts HEq.out).mono ?_))
              rintro e wd ⟨rfl, hbd⟩
              have hBo := below_step hBo hbd rfl rfl rfl rfl
              clear hbd
              dsimp only
              refine hK.out _ _ ?_ (fun hHeld => ?_)
              · first | exact tr_at_range (hA.below hBo hA.lt) | exact tr_at_range (hA.below hBo.drew hA.lt)
              clear hK K
              try simp only [Act.put, List.setIfInBounds_toArray, List.set_cons_zero, List.set_cons_succ]
              refine wpAnyH_take (i := 12) (oi := ⟨some 4, _, _, _, _, _⟩) (v := ?_) rfl (by kernel_rfl) (by kernel_rfl) (by kernel_rfl) (fun _ _ _ h => h) (Or.inl ⟨by rfl, ?_⟩) (by exact hHeld) ?_
              rotate_left
              · (intro w hSw; (try dsimp only at hSw); go_simp; try (with_reducible rfl))
              simp only [Act.put, List.setIfInBounds_toArray, List.set_cons_zero, List.set_cons_succ]
              refine wpAnyH_done (by kernel_rfl) ?_ _
              refine NoPanic.normal ?_
              go_wp2_with fail
              go_ret
              exact ⟨rfl, hB.trans (hBo.mono hB.size)⟩
          · have HLk0 := Lib.hid hlk
            have hlen0 : 0 < L2.length := HLk.out.2 hlk
            have hlen1 : (0 : Int) < (L2.length : Int) := by omega
            have hlen2 : decide ((0 : Int) < (L2.length : Int)) = true := decide_eq_true hlen1
            have hlen3 : decide (0 < L2.length) = true := decide_eq_true hlen0
            clear hlk
            go_wp2_with (first
              | ((with_reducible show wpList _ _ _ ({ dst := _, op := .load 27 _, type := _, pos := _, after := _, guard := _ } :: _) _ _); refine wpList_load_row_want (by rfl) 27 _ rfl w.heap.size rfl 27 t.cs.toArray (0, 0) _ hA Tryz.underlying27 rfl (by kernel_rfl) ?_)
              | fail)
            refine (B.looks k t HA5.out (HIs.out.next hB) HSl.out HFo.out HLk0.out HZ150.out).mono ?_
            rintro e w6 ⟨rfl, ho6⟩
            have hA : At w6 w.heap.size 27 t.cs.toArray := (ho6.block _ hA.lt (fun q => by have := HF4.out _ q; omega)).trans hA
            have hB := hB.trans (ho6.below (fun b q => by have := HF4.out b q; omega) hB.size)
            clear ho6
            go_wp2_with (first
              | ((with_reducible show wpList _ _ _ ({ dst := _, op := .load 27 _, type := _, pos := _, after := _, guard := _ } :: _) _ _); refine wpList_load_row_want (by rfl) 27 _ rfl w.heap.size rfl 27 t.cs.toArray (0, 0) _ hA Tryz.underlying27 rfl (by kernel_rfl) ?_)
              | fail)
            refine (refFormed k t _ (HI.out.next hB)).mono ?_
            rintro e w7 ⟨rfl, hb⟩
            have hA := hA.step hb rfl
            have hB := below_step hB hb rfl rfl rfl rfl
            clear hb
            rw [HFo.out]
            have HB := Lib.hid hB
            clear hA hB
            go_wp2_with fail
            go_ret
            exact ⟨rfl, HB.out⟩
  · have HC : Hid (decide (nodesS k 60 t ≤ 2000) = false) := Lib.hid (decide_eq_false hc)
    clear hc
    go_enter Tryz.func3, Tryz.ntmps3
    go_wp2_with fail
    refine (lawAwake10 S N _).mono ?_
    rintro e w1 ⟨rfl, hb⟩
    have hA := hA.step hb rfl
    have hB := below_step hB hb rfl rfl rfl rfl
    clear hb
    go_wp2_with (first
      | ((with_reducible show wpList _ _ _ ({ dst := _, op := .load 27 _, type := _, pos := _, after := _, guard := _ } :: _) _ _); refine wpList_load_row_want (by rfl) 27 _ rfl w.heap.size rfl 27 t.cs.toArray (0, 0) _ hA Tryz.underlying27 rfl (by kernel_rfl) ?_)
      | fail)
    refine (lawFew k 60 t _ (by omega) (by omega) (HI.out.next hB)).mono ?_
    rintro e w2 ⟨rfl, hb⟩
    have hA := hA.step hb rfl
    have hB := below_step hB hb rfl rfl rfl rfl
    clear hb
    rw [HC.out]
    go_wp2_with fail
    refine (lawAwake10 S N _).mono ?_
    rintro e w8 ⟨rfl, hb⟩
    have hA := hA.step hb rfl
    have hB := below_step hB hb rfl rfl rfl rfl
    clear hb
    have HB := Lib.hid hB
    clear hA hB
    go_wp2_with fail
    go_ret
    exact ⟨rfl, HB.out⟩
end

end Go.Proofs.YtcghclikkeajfaaGreat
