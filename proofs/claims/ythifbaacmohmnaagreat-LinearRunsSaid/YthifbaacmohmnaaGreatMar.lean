/- Joined: FoJ, FmSperner. -/
import Derived.Test.YthifbaacmohmnaaGreatMaq
import Derived.Test.YthifbaacmohmnaaGreatMak
/- package formula: least. -/
namespace Go.Proofs.YthifbaacmohmnaaGreat
open Go.RowKit
set_option linter.unusedVariables false
set_option linter.unusedSimpArgs false

/-- What lies in the row while 'least' walks: ks ahead, from place i on still ys. -/
def twoF (ks ys : List Pt) (i : Nat) : Nat → Option Pt := fun j => if j < ks.length then ks[j]? else if i ≤ j then ys[j]? else none

theorem append_part1 (w : World) (g k cap b c : Nat) (x : Value) (m : Int) (ty : TypeId) (hx : x.oneCell' = true) (h0 : w.cell? ⟨b, 0, none⟩ = some x) (h1 : w.cell? ⟨b, 1, none⟩ = some (.int .u64 m)) (hk : k + 1 ≤ cap)
    (hc : ∀ j, j < 2 → (w.cell? ⟨g, k * 2 + j, none⟩).isSome = true) (hf : ∀ j, j < 2 → w.frozen? ⟨g, k * 2 + j, none⟩ = false) :
    (Builtin.append_ #[138, 138] ty #[.slice (some ⟨g, 0, none⟩) k cap, .slice (some ⟨b, 0, none⟩) 1 c]).run Tryz.prog w = .ok (.slice (some ⟨g, 0, none⟩) (k + 1) cap) ((w.setCell ⟨g, k * 2, none⟩ x).setCell ⟨g, k * 2 + 1, none⟩ (.int .u64 m)) := by
  obtain ⟨i, hi, h2, h3, h4⟩ := info_parts info_part
  have hnews : ∀ j u, [x, .int .u64 m][j]? = some u → w.cell? ((⟨b, 0, none⟩ : Addr).add j) = some u := fun j u hu => by
    rw [show (⟨b, 0, none⟩ : Addr).add j = ⟨b, 0 + j, none⟩ by unfold Addr.add; split <;> simp_all, Nat.zero_add]
    rcases j with _ | _ | j
    · rw [h0]; simpa using hu
    · rw [h1]; simpa using hu
    · simp at hu
  have hfc := run_firstCells_some (P := Tryz.prog) w i.size 1 ⟨b, 0, none⟩ 1 c [x, .int .u64 m] (by rw [h3]; rfl) hnews
  have hst := run_storeCells_cells (P := Tryz.prog) g (k * 2) [x, .int .u64 m] 0 w (by simpa using hc) (by simpa using hf) (by intro v hv; simp at hv; rcases hv with rfl | rfl; exact hx; rfl)
  simp only [Nat.add_zero] at hst
  rw [h3] at hfc
  simp [Builtin.append_, run_underlying Tryz.underlying138, sizeOf, typeInfo, hi, Builtin.lenOf, hk, hfc, Addr.add_lit, h3, hst]
  rfl
set_option maxRecDepth 100000 in
set_option maxHeartbeats 4000000 in
theorem fCompactNil (w : World) (fv : Value) : Calls Tryz.prog 141 #[.slice none 0 0, fv] w fun e w' => e = .returned (.slice none 0 0) ∧ w' = w := by
  go_enter Tryz.func141, Tryz.ntmps141
  go_wp2_with fail
  go_ret
  exact ⟨rfl, rfl⟩
theorem least_nil : LeastOf [] [] := ⟨⟨(fun p hp => by cases hp), List.Pairwise.nil, (fun p hp => by cases hp)⟩, (fun p hp => by cases hp), (fun p hp => by cases hp)⟩
/-- What is sorted and has each part once. -/
theorem srt_of {D : Array Pt} {xs : List Pt} (hp : D.toList.Perm xs) (ho : ∀ i j, i < j → j < D.size → lessS (D[j]!).l (D[i]!).l = false) (hu : ∀ x ∈ xs, Up x.l) :
    Srt (compB (·.l) D D.size) ∧ (∀ y ∈ compB (·.l) D D.size, y ∈ xs) ∧ ∀ x ∈ xs, ∃ y ∈ compB (·.l) D D.size, y.l = x.l := by
  have hm : ∀ i, i < D.size → D[i]! ∈ xs := fun i hi => hp.mem_iff.1 (by rw [getElem!_pos D i hi]; exact Array.getElem_mem_toList hi)
  obtain ⟨h1, h2⟩ := compB_ok (key := fun x : Pt => x.l) (R := fun a b => lessS a b = true) (d := D) (n := D.size) (fun a h => by rw [less_irr] at h; cases h) (fun a b c h h' => less_trans h h') (fun i j hij hj => by
    have := ho i j hij hj
    rcases less_total (D[i]!).l (D[j]!).l with h | h | h
    · exact .inl h
    · rw [this] at h; cases h
    · exact .inr h) D.size (Nat.le_refl _)
  have hin : ∀ y ∈ compB (·.l) D D.size, y ∈ xs := fun y hy => by
    obtain ⟨i, hi, rfl⟩ := compB_mem hy
    exact hm i hi
  refine ⟨⟨by rwa [List.pairwise_map] at h1, fun x hx => hu x (hin x hx)⟩, hin, fun x hx => ?_⟩
  have := hp.mem_iff.2 hx
  obtain ⟨i, hi, e⟩ := List.mem_iff_getElem.1 this
  obtain ⟨y, hy, e2⟩ := h2 i (by simpa using hi)
  refine ⟨y, hy, e2.trans ?_⟩
  rw [getElem!_pos D i (by simpa using hi), ← e]; simp

theorem grown_below {w w1 w2 : World} {row : Option Nat} (h : w.grownBy w1 row) (hb : Below w1.heap.size w1 w2) : w.grownBy w2 row :=
  ⟨hb.os.trans h.os, hb.tape.trans h.tape, hb.output.trans h.output, Nat.le_trans h.size hb.size, fun k hk hne => (hb.block k (Nat.lt_of_lt_of_le hk h.size)).trans (h.block k hk hne)⟩
theorem two_skip {ks ys : List Pt} {i k : Nat} (hle : k ≤ i) : ∀ j y, twoF ks ys (i + 1) j = some y → twoF ks ys i j = some y := by
  intro j y e
  unfold twoF at *
  by_cases h : j < ks.length
  · rw [if_pos h] at *; exact e
  · rw [if_neg h] at *
    by_cases h2 : i + 1 ≤ j
    · rw [if_pos h2] at e; rw [if_pos (by omega)]; exact e
    · rw [if_neg h2] at e; cases e
theorem two_push {ks ys : List Pt} {i k : Nat} {x : Pt} (hk : ks.length = k) (hle : k ≤ i) (hx : ys[i]? = some x) : ∀ j y, twoF (ks ++ [x]) ys (i + 1) j = some y → (if j = k then some x else twoF ks ys i j) = some y := by
  intro j y e
  unfold twoF at *
  by_cases hj : j = k
  · subst hj
    rw [if_pos rfl]
    rw [if_pos (by simp; omega)] at e
    rw [List.getElem?_append_right (by omega), hk] at e
    simpa using e
  · rw [if_neg hj]
    by_cases h : j < ks.length
    · rw [if_pos h]
      rw [if_pos (by simp; omega), List.getElem?_append_left h] at e
      exact e
    · rw [if_neg h]
      rw [if_neg (by simp; omega)] at e
      by_cases h2 : i + 1 ≤ j
      · rw [if_pos h2] at e; rw [if_pos (by omega)]; exact e
      · rw [if_neg h2] at e; cases e

set_option maxRecDepth 100000 in
set_option maxHeartbeats 8000000 in
theorem fLeast (xs : List Pt) (most : Nat) (v : Value) (base : Nat) (w : World) (h : Pts w base v xs) (hx : ∀ x ∈ xs, PtOk w (fun b => v.ownBlock = some b) x) (hl : xs.length ≤ 1000000) (hl2 : ∀ x ∈ xs, x.l.length ≤ 1000000) (hm63 : most ≤ 9223372036854775807)
    (hmost : ∀ r : Fm, Fmd r → (∀ p ∈ r, ∃ x ∈ xs, x.l = p) → r.length ≤ most) :
    Calls Tryz.prog 100 #[v, .int .i64 most] w fun e w' => ∃ v' r, e = .returned v' ∧ Pts w' base v' r ∧ (v'.ownBlock = v.ownBlock ∧ ∀ R, (∀ b, v.ownBlock = some b → R b) → (∀ x ∈ xs, PtOk w R x) → ∀ x ∈ r, PtOk w' R x) ∧ LeastOf xs r ∧ w.grownBy w' v.ownBlock := by
  rcases h.row with ⟨rfl, rfl⟩ | ⟨g, cap, rfl, hn, hcm, hb, hr⟩
  · go_enter Tryz.func100, Tryz.ntmps100
    have hN := Proofs.AnyF.slices_SortFunc_none lib_laysSortParts none 0 (.func (.func 140) #[] #[])
    change ∀ w, Calls Tryz.prog 139 _ _ _ at hN
    go_wp2_with fail
    refine (hN _).mono ?_
    rintro e w1 ⟨rfl, rfl⟩
    clear hN
    go_wp2_with fail
    refine (fCompactNil _ _).mono ?_
    rintro e w1 ⟨rfl, rfl⟩
    go_wp2_with fail
    go_loopw [7, 18] (fun u v wr => u = .slice none 0 0 ∧ v = .int .i64 0 ∧ w1 = wr) (fun _ v _ => 0)
    case atStart => exact ⟨rfl, rfl, rfl⟩
    case round =>
      obtain ⟨rfl, rfl, rfl⟩ := hrel
      go_wp2_with fail
      go_ret
      exact ⟨_, [], rfl, h, ⟨rfl, fun R _ _ x hx => by cases hx⟩, least_nil, ⟨rfl, rfl, rfl, Nat.le_refl _, fun _ _ _ => rfl⟩⟩
  · have hcap : cap ≤ 9223372036854775807 := by unfold maxLen at hcm; omega
    have HCm := Lib.hid hcm
    have HX := Lib.hid hx
    have HMost := Lib.hid hmost
    have HL2 := Lib.hid hl2
    have hS := fSortParts xs w g cap cap hr (fun x hx' => (hx x hx').forget (fun b _ e => by rw [e]; rfl)) hn (by omega)
    go_enter Tryz.func100, Tryz.ntmps100
    clear hx hmost hl2 hcm h hr
    go_wp2_with fail
    refine hS.mono ?_
    rintro e w1 ⟨rfl, d, hperm, hord, hr1, n1, os1, hw1⟩
    have hg1 : w.grownBy w1 (some g) := by rw [hw1]; exact sorted_grown d
    have hsz : d.size = xs.length := by have := hperm.length_eq; simpa using this
    clear hw1 hS
    obtain ⟨D, hD⟩ : ∃ D : Array Pt, d.map (·.val) = D := ⟨_, rfl⟩
    have hDs : D.size = xs.length := by rw [← hD]; simpa using hsz
    have hDp : D.toList.Perm xs := by rw [← hD]; simpa using hperm
    have hDa : ∀ j, j < D.size → D[j]! = (d[j]!).val := fun j hj => by
      have hj' : j < d.size := by omega
      rw [getElem!_pos D j hj, getElem!_pos d j hj']
      simp [← hD]
    have hDr : RowF w1 g cap (fun j => D[j]?) := hr1.weaken (fun j x e => by rw [← hD, Array.getElem?_map] at e; exact e)
    have hDo : ∀ j, j < D.size → PtOk w1 (fun b => b = g) D[j]! := fun j hj => by rw [hDa j hj]; exact ((d[j]!).property).grown hg1 (fun k e => by injection e with e; exact e.symm)
    obtain ⟨hsrt, hin, hcov⟩ := srt_of hDp (fun i j hij hj => by rw [hDa j hj, hDa i (by omega)]; exact hord i j hij (by omega)) (fun x hx => (HX.out x hx).2.1.1)
    have hcl := compB_len (key := fun x : Pt => x.l) D D.size
    have hC := fCompactParts D w1 g cap cap hDr hDo (by omega) (by omega) (by omega) hcap
    rw [hDs] at hC
    obtain ⟨ys, hys⟩ : ∃ ys, compB (·.l) D D.size = ys := ⟨_, rfl⟩
    rw [hys] at hsrt hin hcov hcl
    rw [← hDs, hys, hDs] at hC
    have HC := Lib.hid hC
    have HSrt := Lib.hid hsrt
    have HIn := Lib.hid hin
    have HCov := Lib.hid hcov
    have HG1 := Lib.hid hg1
    have hyl : ys.length ≤ xs.length := by omega
    clear hperm hord hr1 hsz hD hDs hDp hDa hDr hDo hsrt hin hcov hcl hC hys hg1
    go_wp2_with fail
    refine HC.out.mono ?_
    rintro e w2 ⟨rfl, hr2, hg2⟩
    have HG2 := Lib.hid (grown_both HG1.out hg2)
    have HR2 := Lib.hid hr2
    clear hr2 hg2
    go_wp2_with fail
    go_loopw [5, 6, 7, 18] (fun s5 s6 s7 s18 wr => ∃ (i len sh k : Nat), i ≤ ys.length ∧ s5 = .int .i64 len ∧ s6 = .int .i64 sh ∧ s7 = .slice (some ⟨g, 0, none⟩) k cap ∧ s18 = .int .i64 i ∧ Hid (∃ ks : List Pt, ks.length = k ∧ KInv ys ks i len sh ∧ RowF wr g cap (twoF ks ys i)) ∧ Hid (w.grownBy wr (some g))) (fun _ _ _ s18 _ => ys.length - (intOf s18).toNat)
    case atStart => exact ⟨0, 0, 0, 0, Nat.zero_le _, rfl, rfl, rfl, rfl, Lib.hid ⟨[], rfl, KInv.start ys, HR2.out.weaken (fun j x e => by
      unfold twoF at e
      rw [if_neg (by simp), if_pos (Nat.zero_le _)] at e; exact e)⟩, HG2⟩
    case round =>
      obtain ⟨i, len, sh, k, hi, rfl, rfl, rfl, rfl, HK, HG⟩ := hrel
      by_cases hlt : i < ys.length
      · have h1 : (0 : Int) ≤ (i : Int) := by omega -- the round
        have h2 : (i : Int) < (ys.length : Int) := by omega
        obtain ⟨ks, hk, hK, hR⟩ := HK.out
        obtain ⟨x, hxe⟩ : ∃ x, ys[i] = x := ⟨_, rfl⟩
        have hxq : ys[i]? = some x := by rw [← hxe]; exact List.getElem?_eq_getElem hlt
        have HKle : Hid (k ≤ i) := Lib.hid (by have := hK.le; omega)
        obtain ⟨c0, c1⟩ := hR.cell (j := i) (x := x) (by unfold twoF; rw [if_neg (by have := hK.le; omega), if_pos (Nat.le_refl _)]; exact hxq)
        have HXm : Hid (x ∈ xs) := Lib.hid (HIn.out x (by rw [← hxe]; exact List.getElem_mem hlt))
        have HXo : Hid (PtOk wr (fun b => some g = some b) x) := Lib.hid ((HX.out x HXm.out).grown HG.out (fun b e => e))
        have HKm : Hid (∀ y ∈ ks, y ∈ xs) := Lib.hid (fun y hy => HIn.out y (List.mem_of_mem_take (hK.sub.subset hy)))
        obtain ⟨Ax, cx, hv, _⟩ := HXo.out.1
        obtain ⟨xv, hxv⟩ : ∃ xv, x.v = xv := ⟨_, rfl⟩
        rw [hxv] at hv c0
        subst hv
        have HXv := Lib.hid hxv
        have HXe := Lib.hid hxe
        have HXq := Lib.hid hxq
        have HKl := Lib.hid hk
        have HKi := Lib.hid hK
        have HR := Lib.hid hR
        have hBa : Below wr.heap.size wr (wr.alloc (.cells #[.slice Ax x.l.length cx, .int .u64 x.m] 171)) := (Below.refl _ _).alloc (Nat.le_refl _) _
        have hbox : At (wr.alloc (.cells #[.slice Ax x.l.length cx, .int .u64 x.m] 171)) wr.heap.size 171 #[.slice Ax x.l.length cx, .int .u64 x.m] := At.new _ _ _
        have hkc : k ≤ cap := by have := HKle.out; omega
        have hxl : x.l.length ≤ 1000000 := HL2.out x HXm.out
        clear hK hR hxv hxe hxq hk
        by_cases hll : len < x.l.length
        · have hll1 : (x.l.length : Int) > (len : Int) := by omega
          have hsh : k ≤ k := Nat.le_refl _
          have hst : Hid (KAt ys ks i k hlt) := Lib.hid (by have := HKi.out.up HSrt.out hlt (by rw [HXe.out]; exact hll); rwa [HKl.out] at this)
          have zz1 : (k : Int) ≤ (cap : Int) := by omega
          have zz2 : (0 : Int) ≤ (k : Int) := by omega
          go_wp2_with fail
          try go_wp2_with fail
          have hBd : Below wr.heap.size wr (wr.alloc (.cells #[.slice Ax x.l.length cx, .int .u64 x.m] 171)).drew := Below.drew hBa
          have hps : PsAt (wr.alloc (.cells #[.slice Ax x.l.length cx, .int .u64 x.m] 171)).drew (.slice (some ⟨g, 0, none⟩) k cap) (ks.take k) := by
            have hlen : (ks.take k).length = k := by rw [List.length_take]; have := HKl.out; omega
            have hrr : RowF (wr.alloc (.cells #[.slice Ax x.l.length cx, .int .u64 x.m] 171)).drew g cap (twoF ks ys i) := HR.out.next hBd
            refine ⟨⟨some ⟨g, 0, none⟩, cap, by rw [hlen], by rw [hlen]; omega, hcap, fun _ => ⟨g, cap, rfl, by rw [hlen]; omega, hrr.weaken (fun j y e => ?_)⟩⟩, fun y hy => ?_⟩
            · have hj : j < k := by have := (List.getElem?_eq_some_iff.1 e).1; omega
              rw [List.getElem?_take_of_lt hj] at e
              unfold twoF; rw [if_pos (by have := HKl.out; omega)]; exact e
            · have hy' := HKm.out y (List.mem_of_mem_take hy)
              exact (((HX.out y hy').grown HG.out (fun b e => e)).below hBd).forget (fun _ _ h => h.elim)
          have hone := fHasOne x (ks.take k) (some ⟨g, 0, none⟩) k cap _ (wr.alloc (.cells #[.slice Ax x.l.length cx, .int .u64 x.m] 171)).drew (HXo.out.below hBd) hps (fun y hy => by
            rcases List.mem_cons.1 hy with rfl | hy
            · have := HL2.out _ HXm.out; omega
            · have := HL2.out y (HKm.out y (List.mem_of_mem_take hy)); omega)
          rw [HXv.out] at hone
          obtain ⟨r, hrr⟩ : ∃ r, (ks.take k).any (fun q => subS q.l x.l) = r := ⟨_, rfl⟩
          have HRr := Lib.hid hrr
          rw [hrr] at hone
          have HOne := Lib.hid hone
          have HBa := Lib.hid hBd
          have HBox := Lib.hid hbox
          have b0 : (wr.alloc (.cells #[.slice Ax x.l.length cx, .int .u64 x.m] 171)).drew.cell? ⟨wr.heap.size, 0, none⟩ = some (.slice Ax x.l.length cx) := hbox.cell 0
          have b1 : (wr.alloc (.cells #[.slice Ax x.l.length cx, .int .u64 x.m] 171)).drew.cell? ⟨wr.heap.size, 1, none⟩ = some (.int .u64 x.m) := hbox.cell 1
          clear hps hone c0 c1 hBa hbox hBd hrr
          cases r
          · go_region_with (first
              | (go_at_call 144; (with_reducible refine (HOne.out).mono ?_); rintro e w3 ⟨rfl, hb3⟩
                 have HB3 := Lib.hid (HBa.out.trans (hb3.mono HBa.out.size))
                 have HBox3 := Lib.hid ((HBox.out.drew).below hb3 HBox.out.lt)
                 have HR3 := Lib.hid (HR.out.next HB3.out)
                 have HG3 : Hid (w.grownBy w3 (some g)) := Lib.hid (grown_below HG.out HB3.out)
                 have hw3 : Hid (wr.heap.size < w3.heap.size) := Lib.hid (Nat.lt_of_lt_of_le HBox.out.lt hb3.size)
                 clear hb3))
            clear b0 b1
            have d0 := HBox3.out.cell 0
            have d1 := HBox3.out.cell 1
            have hkk : k + 1 ≤ cap := by have := HKle.out; omega
            have hap := append_part1 (w3.alloc (.cells #[.slice Ax x.l.length cx, .int .u64 x.m] 171)) g k cap w3.heap.size 1 (.slice Ax x.l.length cx) x.m 138 rfl ((At.new _ _ _).cell 0) ((At.new _ _ _).cell 1) hkk (fun j hj => (HR3.out.next ((Below.refl _ _).alloc (Nat.le_refl _) _)).some (by omega)) (fun j hj => (HR3.out.next ((Below.refl _ _).alloc (Nat.le_refl _) _)).free _)
            have hkn : Hid (KInv ys (ks ++ [x]) (i + 1) x.l.length k) := Lib.hid (by
              have := hst.out.keep HSrt.out (by rw [HXe.out]; exact HRr.out)
              rwa [HXe.out] at this)
            have hle : (k : Int) + 1 ≤ (most : Int) := by
              have := HMost.out _ (hkn.out.fmd HSrt.out (fun y hy n hn => ((HX.out y (HIn.out y hy)).2.1.2 n hn).1)) (fun q hq => by
                obtain ⟨y, hy, rfl⟩ := List.mem_map.1 hq
                exact ⟨y, HIn.out y (List.mem_of_mem_take (hkn.out.sub.subset hy)), rfl⟩)
              have h3 := HKl.out
              simp at this
              omega
            have hle2 : ¬ ((k : Int) + 1 > (most : Int)) := by omega
            have HAp := Lib.hid hap
            clear hap hkk hle
            go_wp2_with (first | (at_builtin; refine Lib.wpList_append_run _ rfl _ _ _ _ rfl _ _ rfl rfl _ _ HAp.out ?_) | fail)
            refine ⟨⟨i + 1, x.l.length, k, k + 1, by omega, rfl, rfl, by first | rfl | (congr 1; omega), by go_num, Lib.hid ⟨ks ++ [x], by have := HKl.out; simp; omega, hkn.out, ?_⟩, Lib.hid ?_⟩, by simp [intOf]; omega⟩
            · have h3 := (HR3.out.next ((Below.refl _ _).alloc (Nat.le_refl _) (.cells #[.slice Ax x.l.length cx, .int .u64 x.m] 171))).put (i := k) (by have := HKle.out; omega) x
              rw [HXv.out] at h3
              exact h3.weaken (two_push HKl.out HKle.out HXq.out)
            · exact grown_both (grown_below HG3.out ((Below.refl _ _).alloc (Nat.le_refl _) _)) (grown2 _ g (k * 2) (k * 2 + 1) _ _)
          · go_region_with (first
              | (go_at_call 144; (with_reducible refine (HOne.out).mono ?_); rintro e w3 ⟨rfl, hb3⟩
                 have HB3 := Lib.hid (HBa.out.trans (hb3.mono HBa.out.size))
                 have HBox3 := Lib.hid ((HBox.out.drew).below hb3 HBox.out.lt)
                 have HR3 := Lib.hid (HR.out.next HB3.out)
                 have HG3 : Hid (w.grownBy w3 (some g)) := Lib.hid (grown_below HG.out HB3.out)
                 have hw3 : Hid (wr.heap.size < w3.heap.size) := Lib.hid (Nat.lt_of_lt_of_le HBox.out.lt hb3.size)
                 clear hb3))
            clear b0 b1
            have hkn : Hid (KInv ys ks (i + 1) x.l.length k) := Lib.hid (by
              have := hst.out.drop HSrt.out (by rw [HXe.out]; exact HRr.out)
              rwa [HXe.out] at this)
            have hle2 : ¬ ((k : Int) > (most : Int)) := by
              have := HMost.out _ (hkn.out.fmd HSrt.out (fun y hy n hn => ((HX.out y (HIn.out y hy)).2.1.2 n hn).1)) (fun q hq => by
                obtain ⟨y, hy, rfl⟩ := List.mem_map.1 hq
                exact ⟨y, HIn.out y (List.mem_of_mem_take (hkn.out.sub.subset hy)), rfl⟩)
              have h3 := HKl.out
              simp at this
              omega
            go_wp2_with fail
            refine ⟨⟨i + 1, x.l.length, k, k, by omega, rfl, rfl, rfl, by go_num, Lib.hid ⟨ks, HKl.out, hkn.out, HR3.out.weaken (two_skip HKle.out)⟩, HG3⟩, by simp [intOf]; omega⟩
        · have hll1 : ¬ ((x.l.length : Int) > (len : Int)) := by omega
          obtain ⟨hka, hle0⟩ := HKi.out.stay HSrt.out hlt (by rw [HXe.out]; exact hll)
          rw [HXe.out] at hle0
          have HKa := Lib.hid hka
          clear hka
          subst hle0
          have hsh : sh ≤ k := (by have := HKi.out.shle; have := HKl.out; omega)
          have hst : Hid (KAt ys ks i sh hlt) := Lib.hid HKa.out
          have zz1 : (sh : Int) ≤ (cap : Int) := by omega
          have zz2 : (0 : Int) ≤ (sh : Int) := by omega
          go_wp2_with fail
          try go_wp2_with fail
          have hBd : Below wr.heap.size wr (wr.alloc (.cells #[.slice Ax x.l.length cx, .int .u64 x.m] 171)).drew := Below.drew hBa
          have hps : PsAt (wr.alloc (.cells #[.slice Ax x.l.length cx, .int .u64 x.m] 171)).drew (.slice (some ⟨g, 0, none⟩) sh cap) (ks.take sh) := by
            have hlen : (ks.take sh).length = sh := by rw [List.length_take]; have := HKl.out; omega
            have hrr : RowF (wr.alloc (.cells #[.slice Ax x.l.length cx, .int .u64 x.m] 171)).drew g cap (twoF ks ys i) := HR.out.next hBd
            refine ⟨⟨some ⟨g, 0, none⟩, cap, by rw [hlen], by rw [hlen]; omega, hcap, fun _ => ⟨g, cap, rfl, by rw [hlen]; omega, hrr.weaken (fun j y e => ?_)⟩⟩, fun y hy => ?_⟩
            · have hj : j < sh := by have := (List.getElem?_eq_some_iff.1 e).1; omega
              rw [List.getElem?_take_of_lt hj] at e
              unfold twoF; rw [if_pos (by have := HKl.out; omega)]; exact e
            · have hy' := HKm.out y (List.mem_of_mem_take hy)
              exact (((HX.out y hy').grown HG.out (fun b e => e)).below hBd).forget (fun _ _ h => h.elim)
          have hone := fHasOne x (ks.take sh) (some ⟨g, 0, none⟩) sh cap _ (wr.alloc (.cells #[.slice Ax x.l.length cx, .int .u64 x.m] 171)).drew (HXo.out.below hBd) hps (fun y hy => by
            rcases List.mem_cons.1 hy with rfl | hy
            · have := HL2.out _ HXm.out; omega
            · have := HL2.out y (HKm.out y (List.mem_of_mem_take hy)); omega)
          rw [HXv.out] at hone
          obtain ⟨r, hrr⟩ : ∃ r, (ks.take sh).any (fun q => subS q.l x.l) = r := ⟨_, rfl⟩
          have HRr := Lib.hid hrr
          rw [hrr] at hone
          have HOne := Lib.hid hone
          have HBa := Lib.hid hBd
          have HBox := Lib.hid hbox
          have b0 : (wr.alloc (.cells #[.slice Ax x.l.length cx, .int .u64 x.m] 171)).drew.cell? ⟨wr.heap.size, 0, none⟩ = some (.slice Ax x.l.length cx) := hbox.cell 0
          have b1 : (wr.alloc (.cells #[.slice Ax x.l.length cx, .int .u64 x.m] 171)).drew.cell? ⟨wr.heap.size, 1, none⟩ = some (.int .u64 x.m) := hbox.cell 1
          clear hps hone c0 c1 hBa hbox hBd hrr
          cases r
          · go_region_with (first
              | (go_at_call 144; (with_reducible refine (HOne.out).mono ?_); rintro e w3 ⟨rfl, hb3⟩
                 have HB3 := Lib.hid (HBa.out.trans (hb3.mono HBa.out.size))
                 have HBox3 := Lib.hid ((HBox.out.drew).below hb3 HBox.out.lt)
                 have HR3 := Lib.hid (HR.out.next HB3.out)
                 have HG3 : Hid (w.grownBy w3 (some g)) := Lib.hid (grown_below HG.out HB3.out)
                 have hw3 : Hid (wr.heap.size < w3.heap.size) := Lib.hid (Nat.lt_of_lt_of_le HBox.out.lt hb3.size)
                 clear hb3))
            clear b0 b1
            have d0 := HBox3.out.cell 0
            have d1 := HBox3.out.cell 1
            have hkk : k + 1 ≤ cap := by have := HKle.out; omega
            have hap := append_part1 (w3.alloc (.cells #[.slice Ax x.l.length cx, .int .u64 x.m] 171)) g k cap w3.heap.size 1 (.slice Ax x.l.length cx) x.m 138 rfl ((At.new _ _ _).cell 0) ((At.new _ _ _).cell 1) hkk (fun j hj => (HR3.out.next ((Below.refl _ _).alloc (Nat.le_refl _) _)).some (by omega)) (fun j hj => (HR3.out.next ((Below.refl _ _).alloc (Nat.le_refl _) _)).free _)
            have hkn : Hid (KInv ys (ks ++ [x]) (i + 1) x.l.length sh) := Lib.hid (by
              have := hst.out.keep HSrt.out (by rw [HXe.out]; exact HRr.out)
              rwa [HXe.out] at this)
            have hle : (k : Int) + 1 ≤ (most : Int) := by
              have := HMost.out _ (hkn.out.fmd HSrt.out (fun y hy n hn => ((HX.out y (HIn.out y hy)).2.1.2 n hn).1)) (fun q hq => by
                obtain ⟨y, hy, rfl⟩ := List.mem_map.1 hq
                exact ⟨y, HIn.out y (List.mem_of_mem_take (hkn.out.sub.subset hy)), rfl⟩)
              have h3 := HKl.out
              simp at this
              omega
            have hle2 : ¬ ((k : Int) + 1 > (most : Int)) := by omega
            have HAp := Lib.hid hap
            clear hap hkk hle
            go_wp2_with (first | (at_builtin; refine Lib.wpList_append_run _ rfl _ _ _ _ rfl _ _ rfl rfl _ _ HAp.out ?_) | fail)
            refine ⟨⟨i + 1, x.l.length, sh, k + 1, by omega, rfl, rfl, by first | rfl | (congr 1; omega), by go_num, Lib.hid ⟨ks ++ [x], by have := HKl.out; simp; omega, hkn.out, ?_⟩, Lib.hid ?_⟩, by simp [intOf]; omega⟩
            · have h3 := (HR3.out.next ((Below.refl _ _).alloc (Nat.le_refl _) (.cells #[.slice Ax x.l.length cx, .int .u64 x.m] 171))).put (i := k) (by have := HKle.out; omega) x
              rw [HXv.out] at h3
              exact h3.weaken (two_push HKl.out HKle.out HXq.out)
            · exact grown_both (grown_below HG3.out ((Below.refl _ _).alloc (Nat.le_refl _) _)) (grown2 _ g (k * 2) (k * 2 + 1) _ _)
          · go_region_with (first
              | (go_at_call 144; (with_reducible refine (HOne.out).mono ?_); rintro e w3 ⟨rfl, hb3⟩
                 have HB3 := Lib.hid (HBa.out.trans (hb3.mono HBa.out.size))
                 have HBox3 := Lib.hid ((HBox.out.drew).below hb3 HBox.out.lt)
                 have HR3 := Lib.hid (HR.out.next HB3.out)
                 have HG3 : Hid (w.grownBy w3 (some g)) := Lib.hid (grown_below HG.out HB3.out)
                 have hw3 : Hid (wr.heap.size < w3.heap.size) := Lib.hid (Nat.lt_of_lt_of_le HBox.out.lt hb3.size)
                 clear hb3))
            clear b0 b1
            have hkn : Hid (KInv ys ks (i + 1) x.l.length sh) := Lib.hid (by
              have := hst.out.drop HSrt.out (by rw [HXe.out]; exact HRr.out)
              rwa [HXe.out] at this)
            have hle2 : ¬ ((k : Int) > (most : Int)) := by
              have := HMost.out _ (hkn.out.fmd HSrt.out (fun y hy n hn => ((HX.out y (HIn.out y hy)).2.1.2 n hn).1)) (fun q hq => by
                obtain ⟨y, hy, rfl⟩ := List.mem_map.1 hq
                exact ⟨y, HIn.out y (List.mem_of_mem_take (hkn.out.sub.subset hy)), rfl⟩)
              have h3 := HKl.out
              simp at this
              omega
            go_wp2_with fail
            refine ⟨⟨i + 1, x.l.length, sh, k, by omega, rfl, rfl, rfl, by go_num, Lib.hid ⟨ks, HKl.out, hkn.out, HR3.out.weaken (two_skip HKle.out)⟩, HG3⟩, by simp [intOf]; omega⟩
      · obtain rfl : i = ys.length := by omega
        go_wp2_with fail
        go_ret
        obtain ⟨ks, hk, hK, hR⟩ := HK.out
        have hmem : ∀ x ∈ ks, x ∈ xs := fun x hx => HIn.out x (List.mem_of_mem_take (hK.sub.subset hx))
        have hown := hR.own (base := base) ks (fun j hj => by unfold twoF; rw [if_pos hj]; exact List.getElem?_eq_getElem hj) (by have := hK.le; omega) HCm.out hb
        rw [hk] at hown
        refine ⟨_, ks, rfl, hown, ⟨rfl, fun R hR hP x hx => (hP x (hmem x hx)).grown HG.out (fun b e => hR b e)⟩, ⟨hK.fmd HSrt.out (fun x hx n hn => ((HX.out x (HIn.out x hx)).2.1.2 n hn).1), fun p hp => ⟨p, hmem p hp, rfl⟩, fun x hx => ?_⟩, HG.out⟩
        obtain ⟨y, hy, e⟩ := HCov.out x hx
        obtain ⟨p, hp, e2⟩ := hK.cov y (by rw [List.take_length]; exact hy)
        exact ⟨p, hp, fun z hz => by rw [← e]; exact e2 z hz⟩

end Go.Proofs.YthifbaacmohmnaaGreat

/- A formed formula of at most nine numbers has at most 126 parts. Mathematics. -/
namespace Go.Proofs.YthifbaacmohmnaaGreat
set_option linter.unusedVariables false

end Go.Proofs.YthifbaacmohmnaaGreat
