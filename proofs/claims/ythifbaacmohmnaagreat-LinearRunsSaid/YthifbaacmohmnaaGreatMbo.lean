/- Joined: GnCat, LwAheadOne, LwAhead, Has. -/
import Derived.Test.YthifbaacmohmnaaGreatMbn
import Derived.Test.YthifbaacmohmnaaGreatMbk
import Derived.Test.YthifbaacmohmnaaGreatMbm
import Derived.Deep.RegionHeld3
import Derived.Test.YthifbaacmohmnaaGreatProg
import Derived.Test.YthifbaacmohmnaaGreatMaa
import Derived.Test.YthifbaacmohmnaaGreatMal
/- norm.Cat of any nodes of an arena that may get full: by recursion over the number of the first one. -/
namespace Go.Proofs.YthifbaacmohmnaaGreat
open Go.RowKit
set_option linter.unusedSimpArgs false
set_option linter.unusedVariables false

section
variable {AA : World → Value → List Nd → (Nat → Prop) → Prop}
set_option maxRecDepth 100000 in
set_option maxHeartbeats 16000000 in
theorem gCatAhead (S : ArenaAny AA) (n : Nat) (IH : GAhead AA n) (x y : Int) (u : Nd) {w : World} {a : Value} {ns : List Nd} {F : Nat → Prop} {g : Nat} {mv : Option Nat} {V : List Int} (hn : x.toNat ≤ n + 1) (h : AA w a ns F) (hx : isIn ns x) (hy : isIn ns y) (y0 : kd ns y ≠ 0) (y1 : kd ns y ≠ 1) (hg : ChainAt w a ns F g mv V) (k3 : kd ns x = 3) (hu : u = ndAt ns x.toNat) :
    Calls Tryz.prog 187 #[.pointer (some ⟨g, 0, none⟩), .int .i64 x, .agg u.cs.toArray, .int .i64 y] w (AhdPost AA w a ns F x y g mv V) := by
  have hmx := S.max h
  have hxI : I64 x := by unfold isIn at hx; unfold I64; omega
  have hyI : I64 y := by unfold isIn at hy; unfold I64; omega
  have HFi := Lib.hid (S.fine h)
  obtain ⟨⟨ia, la⟩, ib, lb⟩ := in_two HFi.out hx (Or.inl k3)
  have HKa : Hid (ka ns x = u.a) := Lib.hid (by unfold ka; rw [hu])
  have HKb : Hid (kb ns x = u.b) := Lib.hid (by unfold kb; rw [hu])
  have HFl : Hid (∀ b, F b → b < w.heap.size) := Lib.hid (S.low h)
  have HIa := Lib.hid ia
  have HIb := Lib.hid ib
  have HLt : Hid (ka ns x < x ∧ kb ns x < x) := Lib.hid ⟨la, lb⟩
  have HNa : Hid ((ka ns x).toNat ≤ n ∧ (kb ns x).toNat ≤ n) := Lib.hid (by
    have h1 := ia; have h2 := ib; unfold isIn at h1 h2; omega)
  have HX := Lib.hid hx
  have HY := Lib.hid hy
  have HY0 := Lib.hid y0
  have HY1 := Lib.hid y1
  have HK3 := Lib.hid k3
  have HB0 : Hid (Below w.heap.size w (w.alloc (.cells u.cs.toArray 61))) := Lib.hid ((Below.refl _ _).alloc (Nat.le_refl _) _)
  have HA0 := Lib.hid h
  have HG0 := Lib.hid hg
  have hgl := hg.box.lt
  have hG := hg.box.alloc (.cells u.cs.toArray 61)
  have hU := At.new w 61 u.cs.toArray
  have c0 : (w.alloc (.cells u.cs.toArray 61)).cell? ⟨g, 0, none⟩ = some a := hG.cell 0
  have c1 : (w.alloc (.cells u.cs.toArray 61)).cell? ⟨g, 1, none⟩ = some (.map mv) := hG.cell 1
  have hlk := (hg.next HB0.out).look hxI
  have HIH := Lib.hid IH
  obtain ⟨gp, rfl⟩ := S.ptr h
  have hu5 : u.cs[5]? = some (.int .i64 u.a) := rfl
  have hu6 : u.cs[6]? = some (.int .i64 u.b) := rfl
  obtain ⟨W2, hW2⟩ : ∃ W2, W2 = (w.alloc (.cells u.cs.toArray 61)).alloc (.cells #[] 111) := ⟨_, rfl⟩
  have HB2 : Hid (Below w.heap.size w W2) := Lib.hid (by rw [hW2]; exact HB0.out.alloc (by simp) _)
  have HW2 := Lib.hid hW2
  by_cases hs : x ∈ V
  · rw [decide_eq_true hs] at hlk
    have HS := Lib.hid hs
    clear IH hn h hx hy y0 y1 hg k3 hu ia la ib lb hW2 hs
    go_enter Tryz.func187, Tryz.ntmps187
    go_wp2_with fail
    go_ret
    rw [← HW2.out]
    exact AhdPost.stay S.toArenaMid HA0.out HG0.out HB2.out HY.out ⟨cat_vac HFi.out (HG0.out.vac x HS.out) HY.out, Or.inr (Or.inl ⟨rfl, HG0.out.vac x HS.out⟩)⟩
  rw [decide_eq_false hs] at hlk
  have HS := Lib.hid hs
  have HA2 := Lib.hid (S.next HA0.out HB2.out)
  have HG2 := Lib.hid (hg.next HB2.out)
  have HU2 : Hid (At W2 w.heap.size 61 u.cs.toArray) := Lib.hid (by rw [hW2]; exact hU.alloc _)
  have HI1 := Lib.hid (HIH.out (kb ns x) y HNa.out.2 HA2.out HIb.out HY.out HY0.out HY1.out HG2.out)
  rw [hW2, HKb.out] at HI1
  clear IH hn h hx hy y0 y1 hg k3 hu ia la ib lb hW2 hs
  go_enter Tryz.func187, Tryz.ntmps187
  go_wp2_with fail
  refine HI1.out.mono ?_
  rw [← HW2.out, ← HKb.out]
  rintro e w6 ⟨q, more1, F1, mv1, V1, rfl, g1, g2, g3, g4, g5, g6, g7⟩
  have HG6 := Lib.hid g4
  have HU6 : Hid (At w6 w.heap.size 61 u.cs.toArray) := Lib.hid ((g3.block _ HU2.out.lt (fun z => by
    rcases z with z | z | z
    · have := HFl.out _ z; omega
    · omega
    · have := (HG0.out.mF _ z).2.2; omega)).trans HU2.out)
  have HO6 : Hid (OffF (fun b => F b ∨ b = g ∨ mv = some b) w w6) := Lib.hid ((OffF.of HB2.out).off g3 (fun b z => Or.inl z))
  have HF1 : Hid (∀ b, F1 b → F b ∨ w.heap.size ≤ b) := Lib.hid (fun b z => (g2 b z).imp id (fun c => Nat.le_trans HB2.out.size c))
  have HM1 : Hid (∀ m, mv1 = some m → mv = some m ∨ w.heap.size ≤ m) := Lib.hid (fun m z => (g5 m z).imp id (fun c => Nat.le_trans HB2.out.size c))
  have HV1 : Hid (∀ z ∈ V1, z ∈ V ∨ z < x) := Lib.hid (fun z hz => (g6 z hz).imp id (fun c => by have := HLt.out; omega))
  have H1 := Lib.hid g1
  have HU6lt := HU6.out.lt
  rcases g7 with rfl | ⟨g5', g6'⟩
  · clear g1 g2 g3 g4 g5 g6 c0 c1 hG hU hlk
    go_wp2_with fail
    go_ret
    exact ⟨-1, more1, F1, mv1, V1, rfl, H1.out, HF1.out, HO6.out, HG6.out, HM1.out, fun z hz => (HV1.out z hz).imp id (fun c => by omega), Or.inl rfl⟩
  have HFi1 := Lib.hid (S.fine g1)
  have HKn := Lib.hid (nKind S.toArenaMid q g1 g5')
  have hqn : ¬ q < 0 := by unfold isIn at g5'; omega
  have hqd : decide (q < 0) = false := decide_eq_false hqn
  have H5 := Lib.hid g5'
  have H6 := Lib.hid g6'
  clear g1 g2 g3 g4 g5 g6 g5' g6' c0 c1 hG hU hlk
  have c0 := HG6.out.box.cell 0
  have c1 := HG6.out.box.cell 1
  obtain ⟨u0, u1, u2, u3, u4, u5, u6, u7⟩ := Nd.cells HU6.out
  go_wp2_with fail
  refine HKn.out.mono ?_
  rintro e w7 ⟨rfl, hb7⟩
  have HA7 := Lib.hid (S.next H1.out hb7)
  have HG7 := Lib.hid (HG6.out.next hb7)
  have HU7 : Hid (At w7 w.heap.size 61 u.cs.toArray) := Lib.hid ((hb7.block _ HU6.out.lt).trans HU6.out)
  have HO7 : Hid (OffF (fun b => F b ∨ b = g ∨ mv = some b) w w7) := Lib.hid (HO6.out.then hb7)
  have HS7 : Hid (w.heap.size ≤ w7.heap.size) := Lib.hid HO7.out.size
  clear hb7 c0 c1 u0 u1 u2 u3 u4 u5 u6 u7
  have c0 := HG7.out.box.cell 0
  have c1 := HG7.out.box.cell 1
  obtain ⟨u0, u1, u2, u3, u4, u5, u6, u7⟩ := Nd.cells HU7.out
  rw [← HKa.out] at u5
  by_cases q0 : kd (ns ++ more1) q = 0
  · have hq0b : (kd (ns ++ more1) q == 0) = true := by rw [q0]; rfl
    have HQ0 := Lib.hid q0
    clear q0
    go_wp2_with fail
    go_ret
    exact ⟨q, more1, F1, mv1, V1, rfl, HA7.out, HF1.out, HO7.out, HG7.out, HM1.out, fun z hz => (HV1.out z hz).imp id (fun c => by omega), Or.inr ⟨H5.out, cat_two_no HFi.out HFi1.out HX.out HK3.out H5.out H6.out HQ0.out⟩⟩
  have HQ0 := Lib.hid q0
  have hq0b : (kd (ns ++ more1) q == 0) = false := (int_ne q0).1
  have HQ1 : Hid (kd (ns ++ more1) q ≠ 1) := Lib.hid (by
    rcases H6.out.2 with c | ⟨c, _⟩ | ⟨_, c⟩
    · exact absurd c q0
    · rw [c, kd_up HY.out]; exact HY1.out
    · omega)
  have HI2 := Lib.hid (HIH.out (ka ns x) q HNa.out.1 HA7.out (HIa.out.up more1) H5.out HQ0.out HQ1.out HG7.out)
  clear q0
  go_wp2_with fail
  refine HI2.out.mono ?_
  rintro e w8 ⟨r, more2, F2, mv2, V2, rfl, k1, k2, k4, k5, k6, k7, k8⟩
  have HO8 : Hid (OffF (fun b => F b ∨ b = g ∨ mv = some b) w w8) := Lib.hid (HO7.out.off k4 (fun b z => by
    rcases z with z | z | z
    · exact (HF1.out b z).imp Or.inl id
    · exact Or.inl (Or.inr (Or.inl z))
    · exact (HM1.out b z).imp (fun c => Or.inr (Or.inr c)) id))
  have HF2 : Hid (∀ b, F2 b → F b ∨ w.heap.size ≤ b) := Lib.hid (fun b z => by
    rcases k2 b z with c | c
    · exact HF1.out b c
    · exact Or.inr (Nat.le_trans HS7.out c))
  have HM2 : Hid (∀ m, mv2 = some m → mv = some m ∨ w.heap.size ≤ m) := Lib.hid (fun m z => by
    rcases k6 m z with c | c
    · exact HM1.out m c
    · exact Or.inr (Nat.le_trans HS7.out c))
  have HV2 : Hid (∀ z ∈ V2, z ∈ V ∨ z < x) := Lib.hid (fun z hz => by
    rcases k7 z hz with c | c
    · exact HV1.out z c
    · exact Or.inr (by have := HLt.out; omega))
  have HFi2 := Lib.hid (S.fine k1)
  have HA8 := Lib.hid k1
  have HG8 := Lib.hid k5
  have HR : Hid (r = -1 ∨ (isIn ((ns ++ more1) ++ more2) r ∧ AhdR ns x y ((ns ++ more1) ++ more2) r)) := Lib.hid (k8.imp id (fun z => ⟨z.1, cat_two HFi.out HFi1.out HFi2.out HX.out HK3.out HY.out HY0.out H5.out z.1 H6.out HQ0.out z.2⟩))
  have HRn : Hid (∀ W mv3 V3, OffF (fun b => b = g ∨ mv2 = some b) w8 W → ChainAt W (.pointer (some ⟨gp, 0, none⟩)) ((ns ++ more1) ++ more2) F2 g mv3 V3 → (∀ m, mv3 = some m → mv2 = some m ∨ w8.heap.size ≤ m) → (∀ z ∈ V3, z ∈ V2 ∨ z = x) → AhdPost AA w (.pointer (some ⟨gp, 0, none⟩)) ns F x y g mv V (.returned (.int .i64 r)) W) := Lib.hid (fun W mv3 V3 ho hc hm hv => by
    refine ⟨r, more1 ++ more2, F2, mv3, V3, rfl, ?_, HF2.out, HO8.out.off ho (fun b z => ?_), by rw [← List.append_assoc]; exact hc, fun m e => ?_, fun z hz => ?_, by rw [← List.append_assoc]; exact HR.out⟩
    · rw [← List.append_assoc]
      exact S.keep HA8.out (fun b hb => ho.block b (S.low HA8.out b hb) (fun z => by
        rcases z with rfl | z
        · exact HG8.out.gF hb
        · exact (HG8.out.mF b z).1 hb))
    · rcases z with z | z
      · exact Or.inl (Or.inr (Or.inl z))
      · exact (HM2.out b z).imp (fun c => Or.inr (Or.inr c)) id
    · rcases hm m e with c | c
      · exact HM2.out m c
      · exact Or.inr (Nat.le_trans HO8.out.size c)
    · rcases hv z hz with c | c
      · exact (HV2.out z c).imp id (fun d => by omega)
      · exact Or.inr (by omega))
  by_cases hry : r = y
  · subst hry
    have hrb : (r == r) = true := by simp
    have HVx : Hid (Vac ((ns ++ more1) ++ more2) x) := Lib.hid (by
      rcases HR.out with c | ⟨_, c⟩
      · have := HY.out; unfold isIn at this; omega
      · rcases c.2 with d | ⟨_, d⟩ | ⟨d, _⟩
        · have e := kd_up (HY.out.up more1) more2
          rw [e, kd_up HY.out] at d
          exact absurd d HY0.out
        · exact (d.up more1).up more2
        · omega)
    have hmx2 := S.max k1
    have HMk := Lib.hid (gMark x hmx2 HG8.out HVx.out (fun z => by
      rcases HV2.out x z with c | c
      · exact HS.out c
      · omega) (S.low k1))
    clear k1 k2 k4 k5 k6 k7 k8
    go_wp2_with fail
    refine HMk.out.mono ?_
    rintro e w9 ⟨rfl, mv3, m1, m2, m3⟩
    have HEnd := Lib.hid (HRn.out w9 mv3 _ m3 m1 m2 (fun z hz => by
      rcases List.mem_cons.1 hz with c | c
      · exact Or.inr c
      · exact Or.inl c))
    clear m1 m2 m3
    go_wp2_with fail
    go_ret
    exact HEnd.out
  · have hrb := (int_ne hry).1
    have HEnd := Lib.hid (HRn.out w8 mv2 V2 (OffF.of (Below.refl _ _)) HG8.out (fun m e => Or.inl e) (fun z hz => Or.inl hz))
    clear k1 k2 k4 k5 k6 k7 k8 hry
    go_wp2_with fail
    go_ret
    exact HEnd.out

set_option maxRecDepth 100000 in
set_option maxHeartbeats 16000000 in
theorem gAheadOf (S : ArenaAny AA) (n : Nat) (hIH : Hid (∀ m, m + 1 = n → GAhead AA m)) : GAhead AA n := by
    intro x y w a ns F g mv V hn h hx hy y0 y1 hg
    have hmx := S.max h
    have hxI : I64 x := by unfold isIn at hx; unfold I64; omega
    have hyI : I64 y := by unfold isIn at hy; unfold I64; omega
    have HN := Lib.hid (S.nodeIn x h hxI)
    have HA := Lib.hid h
    have HX := Lib.hid hx
    have HY := Lib.hid hy
    have HY0 := Lib.hid y0
    have HY1 := Lib.hid y1
    have HFi := Lib.hid (S.fine h)
    have HNn := Lib.hid hn
    have HG := Lib.hid hg
    have hdx : decide (0 ≤ x ∧ x < (ns.length : Int)) = true := decide_eq_true hx
    obtain ⟨gp, rfl⟩ := S.ptr HA.out
    have c0 := HG.out.box.cell 0
    have hgl := hg.box.lt
    clear h hx hy y0 y1 hn hg
    go_enter Tryz.func164, Tryz.ntmps164
    go_wp2_with fail
    refine HN.out.mono ?_
    rintro e w1 ⟨u, rfl, hu, hb1⟩
    have hu := hu HX.out
    rw [hdx]
    have HU := Lib.hid hu
    have HKx : Hid (kd ns x = u.kind) := Lib.hid (by unfold kd; rw [← hu])
    have HBb := Lib.hid (hb1.trans ((boxN_next w1 u).mono hb1.size))
    have HXb := Lib.hid (boxN_at w1 u)
    have HAb := Lib.hid (S.next HA.out HBb.out)
    have HGb := Lib.hid (HG.out.next HBb.out)
    have ck := (Nd.cells HXb.out).1
    clear hu hb1 hdx c0
    have c0 := HGb.out.box.cell 0
    by_cases x0 : u.kind = 0
    · have HE : Hid (kd ns x = 0) := Lib.hid (by rw [HKx.out]; exact x0)
      rw [x0] at ck
      clear x0
      go_wp2_with (first
      | (with_reducible show wpList _ _ _ ({ dst := none, op := .store _ _ _, type := _, pos := _, after := _, guard := _ } :: _) _ _
         refine wpList_store_row rfl 61 _ _ rfl w1.heap.size u.cs.toArray rfl rfl 61 Nd.zero.cs.toArray (At.new _ _ _) (by kernel_rfl) rfl (Nd.one u) ?_
         first | change wpList _ _ _ _ _ (boxN w1 u) | change Exit.then _ _ _ _ (boxN w1 u))
      | fail)
      go_ret
      exact AhdPost.stay S.toArenaMid HA.out HG.out HBb.out HX.out ⟨cat_none1 HFi.out HX.out HE.out, Or.inl HE.out⟩
    have HKx0 : Hid (kd ns x ≠ 0) := Lib.hid (by rw [HKx.out]; exact x0)
    have x0b := (int_ne x0).1
    clear x0
    by_cases x1 : u.kind = 1
    · have HE : Hid (kd ns x = 1) := Lib.hid (by rw [HKx.out]; exact x1)
      rw [x1] at ck x0b
      clear x1 x0b
      go_wp2_with (first
      | (with_reducible show wpList _ _ _ ({ dst := none, op := .store _ _ _, type := _, pos := _, after := _, guard := _ } :: _) _ _
         refine wpList_store_row rfl 61 _ _ rfl w1.heap.size u.cs.toArray rfl rfl 61 Nd.zero.cs.toArray (At.new _ _ _) (by kernel_rfl) rfl (Nd.one u) ?_
         first | change wpList _ _ _ _ _ (boxN w1 u) | change Exit.then _ _ _ _ (boxN w1 u))
      | fail)
      go_ret
      exact AhdPost.stay S.toArenaMid HA.out HG.out HBb.out HY.out ⟨cat_vac HFi.out (vac_em HFi.out HX.out HE.out) HY.out, Or.inr (Or.inl ⟨rfl, vac_em HFi.out HX.out HE.out⟩)⟩
    have HKx1 : Hid (kd ns x ≠ 1) := Lib.hid (by rw [HKx.out]; exact x1)
    have x1b := (int_ne x1).1
    clear x1
    by_cases x3 : u.kind = 3
    · have HKx3 : Hid (kd ns x = 3) := Lib.hid (by rw [HKx.out]; exact x3)
      have hcl : u.cs.length = 8 := rfl
      have HCA : Hid (Calls Tryz.prog 187 #[.pointer (some ⟨g, 0, none⟩), .int .i64 x, .agg u.cs.toArray, .int .i64 y] (boxN w1 u) (AhdPost AA (boxN w1 u) (.pointer (some ⟨gp, 0, none⟩)) ns F x y g mv V)) := Lib.hid (by
        obtain ⟨⟨ia, la⟩, _⟩ := in_two HFi.out HX.out (Or.inl HKx3.out)
        have h1 := HNn.out
        have h2 := HX.out
        unfold isIn at ia h2
        obtain ⟨m, hm⟩ : ∃ m, n = m + 1 := ⟨n - 1, by omega⟩
        exact gCatAhead S m (hIH.out m hm.symm) x y u (by omega) HAb.out HX.out HY.out HY0.out HY1.out HGb.out HKx3.out HU.out)
      rw [x3] at ck x0b x1b
      clear x3 x0b x1b
      go_wp2_with (first
        | (with_reducible show wpList _ _ _ ({ dst := none, op := .store _ _ _, type := _, pos := _, after := _, guard := _ } :: _) _ _
           refine wpList_store_row rfl 61 _ _ rfl w1.heap.size u.cs.toArray rfl rfl 61 Nd.zero.cs.toArray (At.new _ _ _) (by kernel_rfl) rfl (Nd.one u) ?_
           first | change wpList _ _ _ _ _ (boxN w1 u) | change Exit.then _ _ _ _ (boxN w1 u))
        | (with_reducible show wpList _ _ _ ({ dst := _, op := .load 61 (.tmp 7), type := _, pos := _, after := _, guard := _ } :: _) _ _
           refine wpList_load_row_want (by rfl) 61 _ rfl w1.heap.size rfl 61 u.cs.toArray (0, 0) _ HXb.out Tryz.underlying61 rfl (by rw [List.size_toArray, Nd.cs_length]; kernel_rfl) ?_)
        | fail)
      refine HCA.out.mono ?_
      rintro e w5 gr
      obtain ⟨r, _, _, _, _, rfl, _⟩ := id gr
      have HGr := Lib.hid (gr.from HBb.out)
      clear gr
      go_wp2_with fail
      go_ret
      exact HGr.out
    · have HKx3 : Hid (kd ns x ≠ 3) := Lib.hid (by rw [HKx.out]; exact x3)
      have x3b := (int_ne x3).1
      clear x3
      have HP := Lib.hid (gPut S ⟨3, noSt, x, y, false⟩ HAb.out (fit_small _ _ _ _ (by unfold I64; omega) hxI hyI) (two_right' (Or.inl rfl) HX.out HY.out))
      go_wp2_with (first
      | (with_reducible show wpList _ _ _ ({ dst := none, op := .store _ _ _, type := _, pos := _, after := _, guard := _ } :: _) _ _
         refine wpList_store_row rfl 61 _ _ rfl w1.heap.size u.cs.toArray rfl rfl 61 Nd.zero.cs.toArray (At.new _ _ _) (by kernel_rfl) rfl (Nd.one u) ?_
         first | change wpList _ _ _ _ _ (boxN w1 u) | change Exit.then _ _ _ _ (boxN w1 u))
      | fail)
      refine HP.out.mono ?_
      rintro e w5 gr
      obtain ⟨r, _, _, rfl, _⟩ := id gr
      have HGr : Hid (AhdPost AA w (.pointer (some ⟨gp, 0, none⟩)) ns F x y g mv V (.returned (.int .i64 r)) w5) := Lib.hid (by
        obtain ⟨r', more, F', g0, g1, g2, g3, g4⟩ := gr
        injection g0 with g0
        injection g0 with _ g0
        subst g0
        refine AhdPost.from ?_ HBb.out
        exact ⟨r, more, F', mv, V, rfl, g1, g2, ⟨g3.os, g3.tape, g3.output, g3.size, fun b hb hn => g3.block b hb (fun z => hn (Or.inl z))⟩, HGb.out.off g3 g2 more, fun m e => Or.inl e, fun z hz => Or.inl hz, g4.imp id (fun z => ⟨z.1, cat_made HFi.out (S.fine g1) HX.out HY.out z.1 z.2⟩)⟩)
      clear gr
      go_wp2_with fail
      go_ret
      exact HGr.out
theorem gAhead (S : ArenaAny AA) : ∀ n : Nat, GAhead AA n
  | 0 => gAheadOf S 0 (Lib.hid (fun m h => absurd h (Nat.succ_ne_zero m)))
  | n + 1 => gAheadOf S (n + 1) (Lib.hid (fun m h => (Nat.succ.inj h).symm ▸ gAhead S n))

set_option maxRecDepth 100000 in
set_option maxHeartbeats 16000000 in
theorem gCat (S : ArenaAny AA) (x y : Int) {w : World} {a : Value} {ns : List Nd} {F : Nat → Prop} (h : AA w a ns F) (hx : isIn ns x) (hy : isIn ns y) :
    Calls Tryz.prog 123 #[a, .int .i64 x, .int .i64 y] w (Got AA w a ns F fun ms r => CatT ns x y ms r) := by
  have hmx := S.max h
  have hxI : I64 x := by unfold isIn at hx; unfold I64; omega
  have hyI : I64 y := by unfold isIn at hy; unfold I64; omega
  have HX := Lib.hid hx
  have HY := Lib.hid hy
  have HFi := Lib.hid (S.fine h)
  have HB : Hid (Below w.heap.size w (w.alloc (.cells #[.int .i64 x, .int .i64 y] 3))) := Lib.hid ((Below.refl _ _).alloc (Nat.le_refl _) _)
  have HA0 := Lib.hid h
  have HA := Lib.hid (S.next h HB.out)
  have HT : Hid (Calls Tryz.prog 124 #[a, .slice (some ⟨w.heap.size, 0, none⟩) 2 2] (w.alloc (.cells #[.int .i64 x, .int .i64 y] 3)) fun e w' => e = .returned (.bool true) ∧ w' = w.alloc (.cells #[.int .i64 x, .int .i64 y] 3)) := Lib.hid (nThere S.toArenaMid [x, y] HA.out (list_two _ _ _ _) (by simp) (fun z hz => by simp at hz; rcases hz with rfl | rfl; exact hx; exact hy))
  have HKy := Lib.hid (nKind S.toArenaMid y HA.out hy)
  obtain ⟨gp, rfl⟩ := S.ptr h
  clear h hx hy
  go_enter Tryz.func123, Tryz.ntmps123
  go_wp2_with fail
  refine HT.out.mono ?_
  rintro e w1 ⟨rfl, rfl⟩
  go_wp2_with fail
  refine HKy.out.mono ?_
  rintro e w1 ⟨rfl, hb1⟩
  have HB1 := Lib.hid (HB.out.trans (hb1.mono HB.out.size))
  have HA1 := Lib.hid (S.next HA.out hb1)
  clear hb1
  by_cases y1 : kd ns y = 1
  · have hyb : (kd ns y == 1) = true := by rw [y1]; rfl
    have HE := Lib.hid y1
    clear y1
    go_wp2_with fail
    go_ret
    exact Got.stay S.toArenaMid HA0.out HB1.out HX.out (cat_emp HFi.out HX.out (vac_em HFi.out HY.out HE.out))
  have HY1 := Lib.hid y1
  have y1b := (int_ne y1).1
  have HKy2 := Lib.hid (nKind S.toArenaMid y HA1.out HY.out)
  clear y1
  go_wp2_with fail
  refine HKy2.out.mono ?_
  rintro e w2 ⟨rfl, hb2⟩
  have HB2 := Lib.hid (HB1.out.trans (hb2.mono HB1.out.size))
  have HA2 := Lib.hid (S.next HA1.out hb2)
  clear hb2
  by_cases y0 : kd ns y = 0
  · have hyb : (kd ns y == 0) = true := by rw [y0]; rfl
    have HE := Lib.hid y0
    clear y0
    go_wp2_with fail
    go_ret
    exact Got.stay S.toArenaMid HA0.out HB2.out HY.out (cat_none2 HFi.out HY.out HE.out)
  have HY0 := Lib.hid y0
  have y0b := (int_ne y0).1
  clear y0
  obtain ⟨w3, hw3⟩ : ∃ w3, w3 = w2.alloc (.cells #[.pointer (some ⟨gp, 0, none⟩), .map none] 195) := ⟨_, rfl⟩
  have HB3 : Hid (Below w.heap.size w w3) := Lib.hid (by rw [hw3]; exact HB2.out.alloc HB2.out.size _)
  have HA3 := Lib.hid (S.next HA0.out HB3.out)
  have HG3 : Hid (At w3 w2.heap.size 195 #[.pointer (some ⟨gp, 0, none⟩), .map none]) := Lib.hid (by rw [hw3]; exact At.new _ _ _)
  have HCh : Hid (ChainAt w3 (.pointer (some ⟨gp, 0, none⟩)) ns F w2.heap.size none []) := Lib.hid ⟨HG3.out, (fun x hx => by cases hx), List.nodup_nil, Or.inl ⟨rfl, rfl⟩, (fun z => by have := S.low HA2.out _ z; omega), (fun m e => by cases e)⟩
  have HSz2 : Hid (w.heap.size ≤ w2.heap.size) := Lib.hid HB2.out.size
  have HI := Lib.hid (gAhead S x.toNat x y (Nat.le_refl _) HA3.out HX.out HY.out HY0.out HY1.out HCh.out)
  have HW3 := Lib.hid hw3
  rw [hw3] at HI
  clear hw3
  go_wp2_with fail
  refine HI.out.mono ?_
  rw [← HW3.out]
  rintro e w5 gr
  obtain ⟨r, _, _, _, _, rfl, _⟩ := id gr
  have HGr : Hid (Got AA w (.pointer (some ⟨gp, 0, none⟩)) ns F (fun ms r => CatT ns x y ms r) (.returned (.int .i64 r)) w5) := Lib.hid (by
    obtain ⟨r', more, F', mv', V', g0, g1, g2, g3, g4, g5, g6, g7⟩ := gr.from HB3.out
    refine ⟨r', more, F', g0, g1, g2, ⟨g3.os, g3.tape, g3.output, g3.size, fun b hb hn => g3.block b hb (fun z => ?_)⟩, g7.imp id (fun z => ⟨z.1, z.2.1⟩)⟩
    rcases z with z | z | z
    · exact hn z
    · have := HSz2.out; omega
    · cases z)
  clear gr
  go_wp2_with fail
  go_ret
  exact HGr.out
end

end Go.Proofs.YthifbaacmohmnaaGreat

/- ahead of package linear. -/
namespace Go.Proofs.YthifbaacmohmnaaGreat
open Go.RowKit
set_option linter.unusedSimpArgs false
set_option linter.unusedVariables false

section
variable {p : LP} {w : World} {ns : List Nd} {F : Nat → Prop} {many : Bool}
theorem one_formula {w2 : World} {ns1 : List Nd} {F1 : Nat → Prop} {y x r : Int} {many : Bool} (hr : r = -1 ∨ (isIn ns1 r ∧ CatT ns x y ns1 r)) (h : LW p w2 ns1 F1 (many || decide (r < 0))) :
    Calls Tryz.prog 27 #[.pointer (some ⟨p.gw, 0, none⟩), .int .i64 r] w2 (LAns p w2 ns1 F1 (many || decide (r < 0)) fun ms f => Den V0 0 (ndCv ns y x) ms f) := by
  rcases hr with hr | ⟨ri, hc⟩
  · subst hr
    exact (lFormula (-1) (by unfold I64; omega) (Or.inr ⟨by simp, by unfold isIn; omega⟩) h).mono (fun e w q => LAns.many (by simp) q)
  · refine (lFormula r (isIn_I64 h.few ri) (Or.inl ri) h).mono (fun e w q => q.mono (fun more f _ _ hR => ?_))
    exact Den.val (show Den V0 0 (ndTv ns1 r) _ f from hR) (fun l bits i j hv => hc l bits i j hv.2.2)
set_option maxRecDepth 100000 in
set_option maxHeartbeats 8000000 in
theorem lAheadOne (bx by_ : Nat) (y x : Int) (h : LW p w ns F many) (h3 : At w bx 63 #[.pointer (some ⟨p.gw, 0, none⟩)]) (h5 : At w by_ 3 #[.int .i64 y]) (n3 : ¬ XB p F bx) (n5 : ¬ XB p F by_) (hy : isIn ns y) (hx : isIn ns x ∨ (x = -1 ∧ many = true)) :
    Calls Tryz.prog 156 #[.int .i64 x, .pointer (some ⟨bx, 0, none⟩), .pointer (some ⟨by_, 0, none⟩)] w (LAns p w ns F many fun ms f => Den V0 0 (ndCv ns y x) ms f) := by
  have HD := Lib.hid (Grow.of h (Below.drew (Below.refl _ w)))
  have hmany : ¬ isIn ns x → many = true := fun q => by
    rcases hx with q2 | q2
    · exact absurd q2 q
    · exact q2.2
  have HMn := Lib.hid hmany
  have HCat : Hid (Calls Tryz.prog 123 #[p.a, .int .i64 x, .int .i64 y] w.drew fun e w1 => ∃ (r : Int) (ns1 : List Nd) (F1 : Nat → Prop), e = .returned (.int .i64 r) ∧ Grow p w.drew ns F many w1 ns1 F1 many ∧ (r = -1 ∨ (isIn ns1 r ∧ CatT ns x y ns1 r)) ∧ (r = -1 ∨ isIn ns x)) := Lib.hid (by
    by_cases q : isIn ns x
    · refine (gCat arenaAny x y HD.out.lw.ar q hy).mono (fun e w1 g => ?_)
      obtain ⟨r, ns1, F1, e1, g1, g2⟩ := Got.grow HD.out.lw g
      exact ⟨r, ns1, F1, e1, g1, g2, Or.inr q⟩
    · exact (gCatNo arenaMid x y HD.out.lw.ar q).mono (fun e w1 g => ⟨-1, ns, F, g.1, Grow.of HD.out.lw g.2, Or.inl rfl, Or.inl rfl⟩))
  obtain ⟨gp, hgp⟩ := arenaMid.ptr h.ar
  have HP := Lib.hid hgp
  have c0 := h.cells.1
  rw [hgp] at c0 HCat
  have c3 := h3.cell 0
  have c5 := h5.cell 0
  have H3 := Lib.hid h3
  have H5 := Lib.hid h5
  have HN3 := Lib.hid n3
  have HN5 := Lib.hid n5
  clear h h3 h5 n3 n5 hy hx hgp hmany
  go_enter Tryz.func156, Tryz.ntmps156
  go_wp2_with fail
  go_region_held3 (fun w' => w'.cell? ⟨bx, 0, none⟩ = some (.pointer (some ⟨p.gw, 0, none⟩)) ∧ w'.cell? ⟨by_, 0, none⟩ = some (.int .i64 y) ∧ w'.cell? ⟨p.gw, 0, none⟩ = some (.pointer (some ⟨gp, 0, none⟩)))
    (first | exact ⟨c3, c5, c0⟩ | exact ⟨d3, d5, d0⟩ | exact ⟨e3, e5, e0⟩ | exact ⟨f3, f5, f0⟩ | fail)
    (first
    | (go_at_call 123
       (with_reducible refine HCat.out.mono ?_)
       rintro e w1 ⟨r, ns1, F1, rfl, g1, g2, g3⟩
       have HG1 := Lib.hid (HD.out.trans g1)
       have HR := Lib.hid g2
       have HRx := Lib.hid g3
       have HFt := Lib.hid (lFits g1.lw r)
       have d3 : w1.cell? ⟨bx, 0, none⟩ = some (.pointer (some ⟨p.gw, 0, none⟩)) := At.cell ((HG1.out.off.block bx H3.out.lt HN3.out).trans H3.out) 0
       have d5 : w1.cell? ⟨by_, 0, none⟩ = some (.int .i64 y) := At.cell ((HG1.out.off.block by_ H5.out.lt HN5.out).trans H5.out) 0
       have d0 : w1.cell? ⟨p.gw, 0, none⟩ = some (.pointer (some ⟨gp, 0, none⟩)) := by rw [← HP.out]; exact HG1.out.lw.cells.1
       clear g1 g2 g3)
    | (go_at_call 154
       (with_reducible refine HFt.out.mono ?_)
       rintro e w2 ⟨rfl, g2⟩
       have HG2 := Lib.hid (HG1.out.trans g2)
       have e3 : w2.cell? ⟨bx, 0, none⟩ = some (.pointer (some ⟨p.gw, 0, none⟩)) := At.cell ((HG2.out.off.block bx H3.out.lt HN3.out).trans H3.out) 0
       have e5 : w2.cell? ⟨by_, 0, none⟩ = some (.int .i64 y) := At.cell ((HG2.out.off.block by_ H5.out.lt HN5.out).trans H5.out) 0
       have e0 : w2.cell? ⟨p.gw, 0, none⟩ = some (.pointer (some ⟨gp, 0, none⟩)) := by rw [← HP.out]; exact HG2.out.lw.cells.1
       have HC := Lib.hid (one_formula HR.out g2.lw)
       clear g2)
    | (go_at_call 27
       (with_reducible refine HC.out.mono ?_)
       rintro e w3 ⟨v3, f, ns3, F3, many3, rfl, hg3, hk3, hi3, hd3⟩
       obtain ⟨A3, c3', hv3⟩ := hk3.at
       subst hv3
       have HG3 := Lib.hid (HG2.out.trans hg3)
       have HK3 := Lib.hid hk3
       have HI3 := Lib.hid hi3
       have HD3 := Lib.hid hd3
       have f3 : w3.cell? ⟨bx, 0, none⟩ = some (.pointer (some ⟨p.gw, 0, none⟩)) := At.cell ((HG3.out.off.block bx H3.out.lt HN3.out).trans H3.out) 0
       have f5 : w3.cell? ⟨by_, 0, none⟩ = some (.int .i64 y) := At.cell ((HG3.out.off.block by_ H5.out.lt HN5.out).trans H5.out) 0
       have f0 : w3.cell? ⟨p.gw, 0, none⟩ = some (.pointer (some ⟨gp, 0, none⟩)) := by rw [← HP.out]; exact HG3.out.lw.cells.1
       clear hg3 hk3 hi3 hd3))
  all_goals
    go_wp2_with fail
    go_ret
    exact LAns.done HG3.out HK3.out HI3.out HD3.out
end

end Go.Proofs.YthifbaacmohmnaaGreat

/- ahead of package linear. -/
namespace Go.Proofs.YthifbaacmohmnaaGreat
open Go.RowKit
set_option linter.unusedSimpArgs false
set_option linter.unusedVariables false

section
variable {p : LP} {w : World} {ns : List Nd} {F : Nat → Prop} {many : Bool}
/-- What ahead answers. -/
def AheadR (ns : List Nd) (f : Fm) (y : Int) (ms : List Nd) (h : Fm) : Prop := ∀ (l bits : List Nat) (i j : Nat), V0 l bits i j → (fP (fun n => nodeT l bits ms n i j) h = true ↔ AheadV ns f y l bits i j)
set_option maxRecDepth 100000 in
set_option maxHeartbeats 8000000 in
theorem lAhead {f : Fm} {v : Value} (y : Int) (h : LW p w ns F many) (hv : Keeps (XY p F) w v f) (hf : FmIn (Ls ns) f) (hy : isIn ns y) :
    Calls Tryz.prog 115 #[.pointer (some ⟨p.gw, 0, none⟩), v, .int .i64 y] w (LAns p w ns F many fun ms h => AheadR ns f y ms h) := by
  obtain ⟨A, c, rfl⟩ := hv.at
  have hfw := hf.few
  obtain ⟨w2, hw2⟩ : ∃ w2, w2 = (w.alloc (.cells #[.pointer (some ⟨p.gw, 0, none⟩)] 63)).alloc (.cells #[.int .i64 y] 3) := ⟨_, rfl⟩
  have hb : Below w.heap.size w w2 := by rw [hw2]; exact ((Below.refl _ _).alloc (Nat.le_refl _) _).alloc (by simp) _
  have HG := Lib.hid (Grow.of h hb)
  have HA3 : Hid (At w2 w.heap.size 63 #[.pointer (some ⟨p.gw, 0, none⟩)]) := Lib.hid (by rw [hw2]; exact (Below.heap_alloc _ _ _ (by simp)).trans (At.new w _ _))
  have HA5 : Hid (At w2 (w.heap.size + 1) 3 #[.int .i64 y]) := Lib.hid (by rw [hw2]; have := At.new (w.alloc (.cells #[.pointer (some ⟨p.gw, 0, none⟩)] 63)) 3 #[.int .i64 y]; rwa [World.size_alloc] at this)
  have HN3 : Hid (¬ XB p F w.heap.size) := Lib.hid (fun q => by have := h.low _ q; omega)
  have HN5 : Hid (¬ XB p F (w.heap.size + 1)) := Lib.hid (fun q => by have := h.low _ q; omega)
  have HK2 := Lib.hid (hv.grow HG.out)
  have HFi := Lib.hid hf
  have HY := Lib.hid hy
  have HOne : Hid (∀ (p' : LP), p'.gw = p.gw → (∀ G b, XB p' G b ↔ XB p G b) → ∀ {w3 : World} {ns3 : List Nd} {F3 : Nat → Prop} {m3 : Bool} (x : Int), Grow p' w2 ns F many w3 ns3 F3 m3 → (isIn ns3 x ∨ (x = -1 ∧ m3 = true)) → Calls Tryz.prog 156 #[.int .i64 x, .pointer (some ⟨w.heap.size, 0, none⟩), .pointer (some ⟨w.heap.size + 1, 0, none⟩)] w3 (LAns p' w3 ns3 F3 m3 fun ms f => Den V0 0 (ndCv ns3 y x) ms f)) := Lib.hid (fun p' hp' hXB w3 ns3 F3 m3 x g hx => by
    have hno : ∀ b, b < w2.heap.size → ¬ XB p F b → ¬ XB p' F3 b := fun b hb hn q => by
      rcases g.xlow b q with q | q
      · exact hn ((hXB _ _).1 q)
      · omega
    have k3 := (g.off.block _ HA3.out.lt (fun q => HN3.out ((hXB _ _).1 q))).trans HA3.out
    have k5 := (g.off.block _ HA5.out.lt (fun q => HN5.out ((hXB _ _).1 q))).trans HA5.out
    rw [← hp'] at k3
    exact lAheadOne _ _ y x g.lw k3 k5 (hno _ HA3.out.lt HN3.out) (hno _ HA5.out.lt HN5.out) (g.isIn HY.out) hx)
  have HOf : Hid (∀ q ∈ f, OfIs p w2 ns F many 156 (fun x => #[.int .i64 x, .pointer (some ⟨w.heap.size, 0, none⟩), .pointer (some ⟨w.heap.size + 1, 0, none⟩)]) q V0 0 (ndCv ns y)) := Lib.hid (fun q hq y' w3 ns3 F3 m3 x hx g => by
    have hxi : isIn ns x := HFi.out.inF q hq x hx
    refine (HOne.out { p with y := y' } rfl (fun _ _ => Iff.rfl) x g (Or.inl (g.isIn hxi))).mono (fun e w q => q.mono (fun more f _ _ hR => ?_))
    obtain ⟨m, rfl⟩ := g.more
    rw [ndCv_up hxi HY.out] at hR
    exact hR)
  have HNo := Lib.hid (lNode HG.out.lw HK2.out hf)
  have HRe := Lib.hid (lReplAhead w.heap.size (w.heap.size + 1) HG.out.lw HK2.out hf HOf.out)
  have HW2 := Lib.hid hw2
  have HA3' := HA3
  rw [hw2] at HA3'
  rw [hw2] at HNo HRe
  have c3 := HA3'.out.cell 0
  clear h hv hf hy hb hw2 HA3'
  have HL2 : Hid (∀ i (hi : i < f.length), ∃ b off A2 c2, A = some ⟨b, off, none⟩ ∧ w2.cell? ⟨b, off + i, none⟩ = some (.slice A2 (paAt f i).length c2)) := Lib.hid (fun i hi => by
    obtain ⟨b, off, A2, c2, e, _, q, _⟩ := HK2.out.part i hi
    exact ⟨b, off, A2, c2, e, q⟩)
  rw [HW2.out] at HL2
  go_enter Tryz.func115, Tryz.ntmps115
  go_wp2_with fail
  go_loopw [13] (fun v wr => ∃ (j : Nat), j ≤ f.length ∧ v = .int .i64 j ∧ wr = (w.alloc (.cells #[.pointer (some ⟨p.gw, 0, none⟩)] 63)).alloc (.cells #[.int .i64 y] 3) ∧ Hid (∀ q ∈ f.take j, q.length = 1)) (fun v _ => f.length - (intOf v).toNat)
  case atStart => exact ⟨0, Nat.zero_le _, rfl, rfl, Lib.hid (fun q hq => by simp at hq)⟩
  case round =>
    obtain ⟨j, hj, rfl, rfl, HT⟩ := hrel
    by_cases hlt : j < f.length
    · have h1 : (0 : Int) ≤ (j : Int) := by omega
      have h2 : (j : Int) < (f.length : Int) := by omega
      obtain ⟨b, off, A2, c2, rfl, q0⟩ := HL2.out j hlt
      obtain ⟨x, hx⟩ : ∃ x, paAt f j = x := ⟨_, rfl⟩
      rw [hx] at q0
      have hxe : f[j] = x := by rw [← hx, paAt_lt hlt]
      have HXe : Hid (f[j] = x) := Lib.hid hxe
      clear hx hxe
      by_cases hx1 : x.length = 1
      · have hz : (((x.length : Nat) : Int) == 1) = true := by rw [hx1]; rfl
        have hz' : ((x.length : Nat) : Int) = 1 := by rw [hx1]; rfl
        have HX1 := Lib.hid hx1
        clear hx1
        go_wp2_with fail
        refine ⟨⟨j + 1, by omega, by go_num, (by trivial), Lib.hid (fun q hq => ?_)⟩, by simp [intOf]; omega⟩
        rw [List.take_succ_eq_append_getElem hlt, HXe.out] at hq
        rcases List.mem_append.1 hq with hq | hq
        · exact HT.out q hq
        · rw [List.mem_singleton.1 hq]; exact HX1.out
      · have hz : (((x.length : Nat) : Int) == 1) = false := (int_ne (by omega)).1
        clear hx1
        go_wp2_with fail
        refine HNo.out.mono ?_
        rintro e w5 ⟨z, ns5, F5, many5, rfl, hg5, hz5, hd5⟩
        rw [← HW2.out] at hg5
        have HG5 := Lib.hid (HG.out.trans hg5)
        have HD5 := Lib.hid hd5
        have HG25 := Lib.hid hg5
        have HC := Lib.hid (HOne.out p rfl (fun _ _ => Iff.rfl) z hg5 (hz5.elim (fun q => Or.inr q) Or.inl))
        clear hg5 hz5 hd5
        go_wp2_with fail
        refine HC.out.mono ?_
        rintro e w3 ⟨v3, g, ns3, F3, many3, rfl, hg3, hk3, hi3, hd3⟩
        obtain ⟨A3, c3', hv3⟩ := hk3.at
        subst hv3
        have HG13 := Lib.hid hg3
        have HG3 := Lib.hid (HG5.out.trans hg3)
        have HK3 := Lib.hid hk3
        have HI3 := Lib.hid hi3
        have HD3 := Lib.hid hd3
        clear hg3 hk3 hi3 hd3
        go_wp2_with fail
        go_ret
        refine LAns.done HG3.out HK3.out HI3.out (fun hm => ?_)
        have hm5 : many5 = false := by cases many5 with | false => rfl | true => have := HG13.out.mono rfl; rw [hm] at this; cases this
        intro l bits i k hv
        obtain ⟨m5, rfl⟩ := HG5.out.more
        exact ahead_node (HD5.out hm5) (fun l bits => nodeT_up l bits m5 HY.out) (HD3.out hm) l bits i k hv
    · obtain rfl : j = f.length := by omega
      go_wp2_with fail
      refine HRe.out.mono ?_
      rintro e w3 ⟨v3, g, ns3, F3, many3, rfl, hg3, hk3, hi3, hd3⟩
      rw [← HW2.out] at hg3
      obtain ⟨A3, c3', hv3⟩ := hk3.at
      subst hv3
      have HG3 := Lib.hid (HG.out.trans hg3)
      have HK3 := Lib.hid hk3
      have HI3 := Lib.hid hi3
      have HD3 := Lib.hid hd3
      clear hg3 hk3 hi3 hd3
      go_wp2_with fail
      go_ret
      refine LAns.done HG3.out HK3.out HI3.out (fun hm => ?_)
      intro l bits i k hv
      exact ahead_one (fun q hq => HT.out q (by rw [List.take_of_length_le (Nat.le_refl _)]; exact hq)) (HD3.out hm) l bits i k hv
end

end Go.Proofs.YthifbaacmohmnaaGreat

/- What set.Has answers, of any set and byte. -/
namespace Go.Proofs.YthifbaacmohmnaaGreat
open Go.RowKit

set_option maxHeartbeats 400000 in
theorem setHas (s : St) (hs : s.Ok) (b : Nat) (hb : b < 256) (w : World) :
    Calls Tryz.prog 153 #[.agg #[.int .u64 s.w0, .int .u64 s.w1, .int .u64 s.w2, .int .u64 s.w3], .int .u8 b] w fun e w' => e = .returned (.bool (s.has b)) ∧ Below w.heap.size w w' := by
  obtain ⟨r, hr⟩ : ∃ r : Nat, r = b % 64 := ⟨_, rfl⟩
  have hm : (b : Int) % 64 = r := by omega
  have hq : b / 64 = 0 ∨ b / 64 = 1 ∨ b / 64 = 2 ∨ b / 64 = 3 := by omega
  have hr' : r < 64 := by omega
  rcases hq with hq | hq | hq | hq
  · have hd : (b : Int) / 64 = 0 := by omega
    have HR := Lib.hid (s.has_of b 0 r (by omega) hr')
    clear hr hq
    go_enter Tryz.func153, Tryz.ntmps153
    go_wp2
    go_ret
    exact ⟨ret_bool ((bit_shr _ _ hs.o0).trans HR.out.symm), (Below.refl _ _).alloc (Nat.le_refl _) _⟩
  · have hd : (b : Int) / 64 = 1 := by omega
    have HR := Lib.hid (s.has_of b 1 r (by omega) hr')
    clear hr hq
    go_enter Tryz.func153, Tryz.ntmps153
    go_wp2
    go_ret
    exact ⟨ret_bool ((bit_shr _ _ hs.o1).trans HR.out.symm), (Below.refl _ _).alloc (Nat.le_refl _) _⟩
  · have hd : (b : Int) / 64 = 2 := by omega
    have HR := Lib.hid (s.has_of b 2 r (by omega) hr')
    clear hr hq
    go_enter Tryz.func153, Tryz.ntmps153
    go_wp2
    go_ret
    exact ⟨ret_bool ((bit_shr _ _ hs.o2).trans HR.out.symm), (Below.refl _ _).alloc (Nat.le_refl _) _⟩
  · have hd : (b : Int) / 64 = 3 := by omega
    have HR := Lib.hid (s.has_of b 3 r (by omega) hr')
    clear hr hq
    go_enter Tryz.func153, Tryz.ntmps153
    go_wp2
    go_ret
    exact ⟨ret_bool ((bit_shr _ _ hs.o3).trans HR.out.symm), (Below.refl _ _).alloc (Nat.le_refl _) _⟩

end Go.Proofs.YthifbaacmohmnaaGreat
