/- Joined: LwLeftB, LwLeft, LwBegin. -/
import Derived.Test.YthifbaacmohmnaaGreatMbo
/- left of package linear: of Bytes, of Cat. -/
namespace Go.Proofs.YthifbaacmohmnaaGreat
open Go.RowKit
set_option linter.unusedSimpArgs false
set_option linter.unusedVariables false

/-- left, of nodes up to that. -/
def LeIs (n : Nat) : Prop := ∀ (p : LP) {w : World} {ns : List Nd} {F : Nat → Prop} {many : Bool} (id : Int), isIn ns id → id.toNat ≤ n → LW p w ns F many → Calls Tryz.prog 44 #[.pointer (some ⟨p.gw, 0, none⟩), .int .i64 id] w (LAns p w ns F many fun ms f => LeftR ns id p.b p.bt ms f)
section
variable {p : LP} {w : World} {ns : List Nd} {F : Nat → Prop} {many : Bool}
theorem empty_formula {w2 : World} {ns ns1 : List Nd} {F1 : Nat → Prop} {id r : Int} {many : Bool} (hf : FineN ns) (hin : isIn ns id) (hk : kd ns id = 2) (hb : (ndAt ns id.toNat).set.has p.b = true) (hr : r = -1 ∨ (isIn ns1 r ∧ kd ns1 r = 1)) (h : LW p w2 ns1 F1 (many || decide (r < 0))) :
    Calls Tryz.prog 27 #[.pointer (some ⟨p.gw, 0, none⟩), .int .i64 r] w2 (LAns p w2 ns1 F1 (many || decide (r < 0)) fun ms f => LeftR ns id p.b p.bt ms f) := by
  rcases hr with hr | ⟨ri, hc⟩
  · subst hr
    exact (lFormula (-1) (by unfold I64; omega) (Or.inr ⟨by simp, by unfold isIn; omega⟩) h).mono (fun e w q => LAns.many (by simp) q)
  · exact (lFormula r (isIn_I64 h.few ri) (Or.inl ri) h).mono (fun e w q => q.mono (fun more f _ _ hR => left_byte hf hin hk hb h.fine ri hc hR))
set_option maxRecDepth 100000 in
set_option maxHeartbeats 8000000 in
theorem lLeftBytes (id : Int) (s : St) (h : LW p w ns F many) (hin : isIn ns id) (hk : kd ns id = 2) (hs : (ndAt ns id.toNat).set = s) :
    Calls Tryz.prog 111 #[.pointer (some ⟨p.gw, 0, none⟩), .agg #[.int .u64 s.w0, .int .u64 s.w1, .int .u64 s.w2, .int .u64 s.w3]] w (LAns p w ns F many fun ms f => LeftR ns id p.b p.bt ms f) := by
  have hok : s.Ok := by rw [← hs]; exact (fine_nd h.fine hin).2.2.1
  obtain ⟨w2, hw2⟩ : ∃ w2, w2 = w.alloc (.cells #[.int .u64 s.w0, .int .u64 s.w1, .int .u64 s.w2, .int .u64 s.w3] 46) := ⟨_, rfl⟩
  have hb2 : Below w.heap.size w w2 := by rw [hw2]; exact (Below.refl _ _).alloc (Nat.le_refl _) _
  have HG := Lib.hid (Grow.of h hb2)
  have HGd := Lib.hid (HG.out.next (Below.drew (Below.refl _ w2)))
  have hbx : At w2 w.heap.size 46 #[.int .u64 s.w0, .int .u64 s.w1, .int .u64 s.w2, .int .u64 s.w3] := by rw [hw2]; exact At.new _ _ _
  have z0 := hbx.cell 0
  have z1 := hbx.cell 1
  have z2 := hbx.cell 2
  have z3 := hbx.cell 3
  have cb := HG.out.lw.cells.2.1
  have HB := Lib.hid hbx
  have HHas := Lib.hid (setHas s hok p.b h.b8.1 w2.drew)
  have HI := Lib.hid hin
  have HKd := Lib.hid hk
  have HS := Lib.hid hs
  have HFi := Lib.hid h.fine
  obtain ⟨gp, hgp⟩ := arenaMid.ptr h.ar
  have HP := Lib.hid hgp
  have HW2 := Lib.hid hw2
  have hNx : ¬ XB p F w.heap.size := fun q => by have := h.low _ q; omega
  have HNx := Lib.hid hNx
  obtain ⟨hv, hhv⟩ : ∃ hv, s.has p.b = hv := ⟨_, rfl⟩
  rw [hhv] at HHas
  rw [hw2] at z0 z1 z2 z3 cb HB HHas HGd
  have HV := Lib.hid hhv
  clear h hin hk hs hok hb2 hgp hNx hhv hbx hw2 HG
  go_enter Tryz.func111, Tryz.ntmps111
  go_wp2_with fail
  rw [← HW2.out] at z0 z1 z2 z3 cb HB HHas HGd ⊢
  clear HW2
  go_region_held3 (fun w' => w'.cell? ⟨p.gw, 1, none⟩ = some (.int .u8 p.b) ∧ w'.cell? ⟨w.heap.size, 0, none⟩ = some (.int .u64 s.w0) ∧ w'.cell? ⟨w.heap.size, 1, none⟩ = some (.int .u64 s.w1) ∧ w'.cell? ⟨w.heap.size, 2, none⟩ = some (.int .u64 s.w2) ∧ w'.cell? ⟨w.heap.size, 3, none⟩ = some (.int .u64 s.w3))
    (first | exact ⟨cb, z0, z1, z2, z3⟩ | exact ⟨db, y0, y1, y2, y3⟩ | fail)
    ((go_at_call 153
      (with_reducible refine HHas.out.mono ?_)
      rintro e w3 ⟨rfl, hb3⟩
      have HG3 := Lib.hid (HGd.out.next hb3)
      have hB3 : At w3 w.heap.size 46 #[.int .u64 s.w0, .int .u64 s.w1, .int .u64 s.w2, .int .u64 s.w3] := At.step HB.out hb3 rfl
      have y0 := hB3.cell 0
      have y1 := hB3.cell 1
      have y2 := hB3.cell 2
      have y3 := hB3.cell 3
      have db := HG3.out.lw.cells.2.1
      clear hb3 hB3))
  clear z0 z1 z2 z3 cb y0 y1 y2 y3 db
  cases hv
  · go_wp2_with fail
    refine (lFalse w3).mono ?_
    rintro e w4 ⟨A4, c4, rfl, hf4, hb4⟩
    have HEnd := Lib.hid (HG3.out.next hb4)
    have HKe := Lib.hid (FmFrom.keeps HG3.out.lw hf4)
    clear hf4 hb4
    go_wp2_with fail
    go_ret
    exact LAns.done HEnd.out HKe.out (FmIn.nil _) (fun _ => left_byteNo HFi.out HI.out HKd.out (by rw [HS.out, HV.out]))
  · have c0 := HG3.out.lw.cells.1
    have HE := Lib.hid (gEmpty arenaAny HG3.out.lw.ar)
    rw [HP.out] at c0 HE
    go_wp2_with fail
    refine HE.out.mono ?_
    rintro e w4 g
    rw [← HP.out] at g
    obtain ⟨r, ns1, F1, rfl, g1, g2⟩ := Got.grow HG3.out.lw g
    have HG4 := Lib.hid (HG3.out.trans g1)
    have HFt := Lib.hid (lFits g1.lw r)
    have HR := Lib.hid g2
    clear g g1 g2
    go_wp2_with fail
    refine HFt.out.mono ?_
    rintro e w5 ⟨rfl, g2⟩
    have HG5 := Lib.hid (HG4.out.trans g2)
    have HC := Lib.hid (empty_formula HFi.out HI.out HKd.out (by rw [HS.out, HV.out]) HR.out g2.lw)
    clear g2
    go_wp2_with fail
    refine HC.out.mono ?_
    rintro e w6 ⟨v6, f, ns6, F6, many6, rfl, hg6, hk6, hi6, hd6⟩
    obtain ⟨A6, c6, hv6⟩ := hk6.at
    subst hv6
    have HG6 := Lib.hid (HG5.out.trans hg6)
    have HK6 := Lib.hid hk6
    have HI6 := Lib.hid hi6
    have HD6 := Lib.hid hd6
    clear hg6 hk6 hi6 hd6
    go_wp2_with fail
    go_ret
    exact LAns.done HG6.out HK6.out HI6.out HD6.out
set_option maxRecDepth 100000 in
set_option maxHeartbeats 8000000 in
theorem lLeftCat {n : Nat} (IH : ∀ k, k < n → LeIs k) (id x y : Int) (h : LW p w ns F many) (hin : isIn ns id) (hk : kd ns id = 3) (hx : ka ns id = x) (hy : kb ns id = y) (hn : id.toNat ≤ n) :
    Calls Tryz.prog 112 #[.pointer (some ⟨p.gw, 0, none⟩), .int .i64 x, .int .i64 y] w (LAns p w ns F many fun ms f => LeftR ns id p.b p.bt ms f) := by
  obtain ⟨⟨ia, la⟩, ib, lb⟩ := in_two h.fine hin (by omega)
  rw [hx] at ia la
  rw [hy] at ib lb
  have HX := Lib.hid (show isIn ns x ∧ x.toNat < n from ⟨ia, by unfold isIn at ia hin; omega⟩)
  have HY := Lib.hid (show isIn ns y ∧ y.toNat < n from ⟨ib, by unfold isIn at ib hin; omega⟩)
  have HLx := Lib.hid (IH _ HX.out.2 p x ia (Nat.le_refl _) h)
  have HIH := Lib.hid IH
  have HI := Lib.hid hin
  have HKd := Lib.hid (show kd ns id = 3 ∧ ka ns id = x ∧ kb ns id = y from ⟨hk, hx, hy⟩)
  have HFi := Lib.hid h.fine
  clear h hin hk hx hy hn ia la ib lb IH
  go_enter Tryz.func112, Tryz.ntmps112
  go_wp2_with fail
  refine HLx.out.mono ?_
  rintro e w1 ⟨v1, f, ns1, F1, many1, rfl, hg1, hk1, hi1, hd1⟩
  have HAh := Lib.hid (lAhead y hg1.lw hk1 hi1 (hg1.isIn HY.out.1))
  obtain ⟨A1, c1, hv1⟩ := hk1.at
  subst hv1
  have HG1 := Lib.hid hg1
  have HI1 := Lib.hid hi1
  have HD1 := Lib.hid hd1
  clear hg1 hk1 hi1 hd1 HLx
  go_wp2_with fail
  refine HAh.out.mono ?_
  rintro e w2 ⟨v2, a, ns2, F2, many2, rfl, hg2, hk2, hi2, hd2⟩
  obtain ⟨A2, c2, hv2⟩ := hk2.at
  subst hv2
  have HG12 := Lib.hid hg2
  have HG2 := Lib.hid (HG1.out.trans hg2)
  have HK2 := Lib.hid hk2
  have HI2 := Lib.hid hi2
  have HD2 := Lib.hid hd2
  have HNu := Lib.hid (lNull HG2.out.lw x (HG2.out.isIn HX.out.1))
  clear hg2 hk2 hi2 hd2 HAh
  go_wp2_with fail
  refine HNu.out.mono ?_
  rintro e w3 ⟨rfl, hg3⟩
  have HG23 := Lib.hid hg3
  have HG3 := Lib.hid (HG2.out.trans hg3)
  have HK3 := Lib.hid (HK2.out.grow hg3)
  have HNe : Hid (nullS ns2 p.bt x = nullS ns p.bt x) := Lib.hid (by obtain ⟨m, rfl⟩ := HG2.out.more; exact null_up HX.out.1 m)
  rw [HNe.out]
  obtain ⟨nl, hnl⟩ : ∃ nl, nullS ns p.bt x = nl := ⟨_, rfl⟩
  rw [hnl]
  have HNl := Lib.hid hnl
  clear hg3 hnl HNu
  have HAhd : Hid (∀ (more : List Nd), many2 = false → ∀ l bits i j, V0 l bits i j → (fP (fun n => nodeT l bits (ns2 ++ more) n i j) a = true ↔ AheadV ns1 f (kb ns id) l bits i j)) := Lib.hid (fun more hm l bits i j hv => by
    rw [HKd.out.2.2, fP_up HI2.out.inF more]
    exact HD2.out hm l bits i j hv)
  have HYu : Hid (∀ l bits, nodeT l bits ns1 (kb ns id) = nodeT l bits ns (kb ns id)) := Lib.hid (fun l bits => by
    obtain ⟨m, rfl⟩ := HG1.out.more
    rw [HKd.out.2.2]
    exact nodeT_up l bits m HY.out.1)
  have HXl : Hid (many1 = false → LeftR ns (ka ns id) p.b p.bt ns1 f) := Lib.hid (by rw [HKd.out.2.1]; exact HD1.out)
  cases nl
  · go_wp2_with fail
    go_ret
    refine LAns.done HG3.out HK3.out HI2.out (fun hm => ?_)
    have hm1 : many1 = false := by cases many1 with | false => rfl | true => have := HG12.out.mono rfl; rw [hm] at this; cases this
    refine left_cat (a := a) (g := []) HFi.out HI.out HKd.out.1 (HXl.out hm1) HYu.out (fun l bits i j hv => ?_) (fun q => by rw [HKd.out.2.1, HNl.out] at q; cases q) (fun P => by rw [HKd.out.2.1, HNl.out]; simp)
    have := HAhd.out [] hm l bits i j hv
    rwa [List.append_nil] at this
  · have HLy := Lib.hid (HIH.out _ HY.out.2 p y (HG3.out.isIn HY.out.1) (Nat.le_refl _) HG3.out.lw)
    go_wp2_with fail
    refine HLy.out.mono ?_
    rintro e w4 ⟨v4, g, ns4, F4, many4, rfl, hg4, hk4, hi4, hd4⟩
    have HEi := Lib.hid (lEither hg4.lw (HK3.out.grow hg4) hk4 (hg4.fm HI2.out) hi4)
    obtain ⟨A4, c4, hv4⟩ := hk4.at
    subst hv4
    have HG34 := Lib.hid hg4
    have HG4 := Lib.hid (HG3.out.trans hg4)
    have HI4 := Lib.hid hi4
    have HD4 := Lib.hid hd4
    clear hg4 hk4 hi4 hd4 HLy
    go_wp2_with fail
    refine HEi.out.mono ?_
    rintro e w5 ⟨v5, x5, ns5, F5, many5, rfl, hg5, hk5, hi5, hd5⟩
    obtain ⟨A5, c5, hv5⟩ := hk5.at
    subst hv5
    have HG45 := Lib.hid hg5
    have HG5 := Lib.hid (HG4.out.trans hg5)
    have HK5 := Lib.hid hk5
    have HI5 := Lib.hid hi5
    have HD5 := Lib.hid hd5
    clear hg5 hk5 hi5 hd5 HEi
    go_wp2_with fail
    go_ret
    refine LAns.done HG5.out HK5.out HI5.out (fun hm => ?_)
    have hm4 : many4 = false := by cases many4 with | false => rfl | true => have := HG45.out.mono rfl; rw [hm] at this; cases this
    have hm2 : many2 = false := by cases many2 with | false => rfl | true => have := HG34.out.mono rfl; rw [hm4] at this; cases this
    have hm1 : many1 = false := by cases many1 with | false => rfl | true => have := HG12.out.mono rfl; rw [hm2] at this; cases this
    obtain ⟨m4, hm4e⟩ := HG34.out.more
    obtain ⟨m5, hm5e⟩ := HG45.out.more
    obtain ⟨m3, hm3e⟩ := HG3.out.more
    have hgR : LeftR ns y p.b p.bt ns5 g := by
      have h1 := HD4.out hm4
      rw [hm3e] at h1
      have h2 : LeftR ns y p.b p.bt ns4 g := LeftR.from h1 HY.out.1
      rw [hm5e]
      exact Den.up h2 HI4.out.inF m5
    refine left_cat (a := a) (g := g) HFi.out HI.out HKd.out.1 (HXl.out hm1) HYu.out (fun l bits i j hv => ?_) (fun _ => by rw [HKd.out.2.2]; exact hgR) (fun P => by rw [HKd.out.2.1, HNl.out, Bool.true_and]; exact HD5.out hm P)
    have := HAhd.out (m4 ++ m5) hm2 l bits i j hv
    rwa [← List.append_assoc, ← hm4e, ← hm5e] at this
end

end Go.Proofs.YthifbaacmohmnaaGreat

/- left of package linear, whole. -/
namespace Go.Proofs.YthifbaacmohmnaaGreat
open Go.RowKit
set_option linter.unusedSimpArgs false
set_option linter.unusedVariables false

section
variable {p : LP} {w : World} {ns : List Nd} {F : Nat → Prop} {many : Bool}
theorem ofLeft {n : Nat} (IH : ∀ k, k < n → LeIs k) (ms : List Int) (hm : ∀ y ∈ ms, isIn ns y ∧ y.toNat < n) : OfIs p w ns F many 44 (fun x => #[.pointer (some ⟨p.gw, 0, none⟩), .int .i64 x]) ms (V1 p.b p.bt) 1 (ndTv ns) := fun y' w1 ns1 F1 many1 y hy g => by
  obtain ⟨h1, h2⟩ := hm y hy
  refine (IH _ h2 { p with y := y' } y (g.isIn h1) (Nat.le_refl _) g.lw).mono (fun e w q => q.mono (fun more f _ _ hR => ?_))
  obtain ⟨m, rfl⟩ := g.more
  exact LeftR.from hR h1
theorem ofOpp (ms : List Int) (hm : ∀ y ∈ ms, isIn ns y) : OfIs p w ns F many 114 (fun x => #[.pointer (some ⟨p.gw, 0, none⟩), .int .i64 x]) ms V0 0 (ndNv ns) := fun y' w1 ns1 F1 many1 y hy g => by
  have h1 := hm y hy
  refine (lOpposite (p := { p with y := y' }) y g.lw (g.isIn h1)).mono (fun e w q => q.mono (fun more f _ _ hR => ?_))
  obtain ⟨m, rfl⟩ := g.more
  rw [ndNv_up h1] at hR
  exact hR
set_option maxRecDepth 100000 in
set_option maxHeartbeats 16000000 in
theorem lLeftOf {n : Nat} (IH : ∀ k, k < n → LeIs k) (id : Int) (h : LW p w ns F many) (hin : isIn ns id) (hr : id.toNat = n) :
    Calls Tryz.prog 77 #[.pointer (some ⟨p.gw, 0, none⟩), .int .i64 id] w (LAns p w ns F many fun ms f => LeftR ns id p.b p.bt ms f) := by
  have HX := Lib.hid hin
  have HI := Lib.hid hin
  have HRk := Lib.hid hr
  clear hin hr
  have HW := Lib.hid h
  have HIH := Lib.hid IH
  obtain ⟨gp, hgp⟩ := arenaMid.ptr h.ar
  have HN := Lib.hid (arenaMid.node id h.ar (isIn_I64 h.few HX.out))
  rw [show decide (0 ≤ id ∧ id < (ns.length : Int)) = true from decide_eq_true HX.out] at HN
  have c0 := h.cells.1
  rw [hgp] at c0 HN
  have HFi := Lib.hid h.fine
  have HFw := Lib.hid h.few
  clear h IH hgp
  go_enter Tryz.func77, Tryz.ntmps77
  go_wp2_with fail
  refine HN.out.mono ?_
  rintro e w3 ⟨u, rfl, hu, hb3, _⟩
  have hu := hu HX.out
  have HK : Hid (kd ns id = u.kind ∧ ka ns id = u.a ∧ kb ns id = u.b) := Lib.hid ⟨by unfold kd; rw [← hu], by unfold ka; rw [← hu], by unfold kb; rw [← hu]⟩
  have HU := Lib.hid hu
  have HXb := Lib.hid (boxN_at w3 u)
  have HG := Lib.hid (Grow.of HW.out (hb3.trans ((boxN_next w3 u).mono hb3.size)))
  have hone := Nd.one u
  have ck := (Nd.cells HXb.out).1
  have cA := (Nd.cells HXb.out).2.2.2.2.2.1
  clear hu hb3
  have cB := (Nd.cells HXb.out).2.2.2.2.2.2.1
  have HSr : Hid ((boxN w3 u).rangeAt w3.heap.size 1 [.int .u64 u.set.w0, .int .u64 u.set.w1, .int .u64 u.set.w2, .int .u64 u.set.w3]) := Lib.hid (by
    obtain ⟨_, s0, s1, s2, s3, _⟩ := Nd.cells HXb.out
    intro j v hj
    match j, hj with
    | 0, hj => injection hj with hj; subst hj; exact s0
    | 1, hj => injection hj with hj; subst hj; exact s1
    | 2, hj => injection hj with hj; subst hj; exact s2
    | 3, hj => injection hj with hj; subst hj; exact s3
    | j + 4, hj => simp at hj)
  by_cases hk2 : u.kind = 2
  · have HKd := Lib.hid hk2
    rw [hk2] at ck
    clear hk2
    have HC := Lib.hid (lLeftBytes id u.set HG.out.lw HI.out (by rw [HK.out.1]; exact HKd.out) (by rw [HU.out]))
    go_wp2_with (first
      | (with_reducible show wpList _ _ _ ({ dst := none, op := .store 61 _ _, type := _, pos := _, after := _, guard := _ } :: _) _ _
         refine wpList_store_row rfl 61 _ _ rfl w3.heap.size u.cs.toArray rfl rfl 61 Nd.zero.cs.toArray (At.new _ _ _) (by kernel_rfl) rfl hone ?_
         first | change wpList _ _ _ _ _ (boxN w3 u) | change Exit.then _ _ _ _ (boxN w3 u))
      | (with_reducible show wpList _ _ _ ({ dst := _, op := .load 61 _, type := _, pos := _, after := _, guard := _ } :: _) _ _
         refine wpList_load_row_want (by rfl) 61 _ rfl w3.heap.size rfl 61 u.cs.toArray (0, 0) _ HXb.out Tryz.underlying61 rfl (by rw [List.size_toArray, Nd.cs_length]; kernel_rfl) ?_)
      | (with_reducible show wpList _ _ _ ({ dst := _, op := .load 46 _, type := _, pos := _, after := _, guard := _ } :: _) _ _
         refine wpList_load_mid rfl 46 _ rfl w3.heap.size 1 rfl [.int .u64 u.set.w0, .int .u64 u.set.w1, .int .u64 u.set.w2, .int .u64 u.set.w3] _ HSr.out Tryz.underlying46 rfl (by kernel_rfl) ?_)
      | fail)
    refine HC.out.mono ?_
    rintro e w6 ⟨v6, f, ns6, F6, many6, rfl, hg6, hk6, hi6, hd6⟩
    obtain ⟨A6, c6, hv6⟩ := hk6.at
    subst hv6
    have HG6 := Lib.hid (HG.out.trans hg6)
    have HK6 := Lib.hid hk6
    have HI6 := Lib.hid hi6
    have HD6 := Lib.hid hd6
    clear hg6 hk6 hi6 hd6
    go_wp2_with fail
    go_ret
    exact LAns.done HG6.out HK6.out HI6.out HD6.out
  have hb2 := (int_ne hk2).1
  clear hk2
  by_cases hk3 : u.kind = 3
  · have HKd := Lib.hid hk3
    rw [hk3] at ck
    clear hk3 hb2
    have HC := Lib.hid (lLeftCat HIH.out id u.a u.b HG.out.lw HI.out (by rw [HK.out.1]; exact HKd.out) HK.out.2.1 HK.out.2.2 (by have := HRk.out; omega))
    go_wp2_with (first
      | (with_reducible show wpList _ _ _ ({ dst := none, op := .store 61 _ _, type := _, pos := _, after := _, guard := _ } :: _) _ _
         refine wpList_store_row rfl 61 _ _ rfl w3.heap.size u.cs.toArray rfl rfl 61 Nd.zero.cs.toArray (At.new _ _ _) (by kernel_rfl) rfl hone ?_
         first | change wpList _ _ _ _ _ (boxN w3 u) | change Exit.then _ _ _ _ (boxN w3 u))
      | (with_reducible show wpList _ _ _ ({ dst := _, op := .load 61 _, type := _, pos := _, after := _, guard := _ } :: _) _ _
         refine wpList_load_row_want (by rfl) 61 _ rfl w3.heap.size rfl 61 u.cs.toArray (0, 0) _ HXb.out Tryz.underlying61 rfl (by rw [List.size_toArray, Nd.cs_length]; kernel_rfl) ?_)
      | (with_reducible show wpList _ _ _ ({ dst := _, op := .load 46 _, type := _, pos := _, after := _, guard := _ } :: _) _ _
         refine wpList_load_mid rfl 46 _ rfl w3.heap.size 1 rfl [.int .u64 u.set.w0, .int .u64 u.set.w1, .int .u64 u.set.w2, .int .u64 u.set.w3] _ HSr.out Tryz.underlying46 rfl (by kernel_rfl) ?_)
      | fail)
    refine HC.out.mono ?_
    rintro e w6 ⟨v6, f, ns6, F6, many6, rfl, hg6, hk6, hi6, hd6⟩
    obtain ⟨A6, c6, hv6⟩ := hk6.at
    subst hv6
    have HG6 := Lib.hid (HG.out.trans hg6)
    have HK6 := Lib.hid hk6
    have HI6 := Lib.hid hi6
    have HD6 := Lib.hid hd6
    clear hg6 hk6 hi6 hd6
    go_wp2_with fail
    go_ret
    exact LAns.done HG6.out HK6.out HI6.out HD6.out
  have hb3 := (int_ne hk3).1
  clear hk3
  by_cases hk4 : u.kind = 4
  · have HKd := Lib.hid hk4
    rw [hk4] at ck
    clear hk4 hb2 hb3
    obtain ⟨⟨ia, la⟩, ib, lb⟩ := in_two HFi.out HX.out (by rw [HK.out.1]; have := HKd.out; omega)
    rw [HK.out.2.1] at ia la
    rw [HK.out.2.2] at ib lb
    have HM := Lib.hid (lMembers 4 (by omega) HG.out.lw u HKd.out ia ib)
    have HMm : Hid (∀ y, (y ∈ mem ns 4 u.a ∨ y ∈ mem ns 4 u.b) → isIn ns y ∧ y < id) := Lib.hid (fun y hy => by
      rcases hy with hy | hy
      · obtain ⟨q1, q2, _⟩ := mem_in HFi.out (by omega) _ u.a (Nat.le_refl _) ia y hy
        exact ⟨q1, by omega⟩
      · obtain ⟨q1, q2, _⟩ := mem_in HFi.out (by omega) _ u.b (Nat.le_refl _) ib y hy
        exact ⟨q1, by omega⟩)
    clear ia la ib lb
    go_wp2_with (first
      | (with_reducible show wpList _ _ _ ({ dst := none, op := .store 61 _ _, type := _, pos := _, after := _, guard := _ } :: _) _ _
         refine wpList_store_row rfl 61 _ _ rfl w3.heap.size u.cs.toArray rfl rfl 61 Nd.zero.cs.toArray (At.new _ _ _) (by kernel_rfl) rfl hone ?_
         first | change wpList _ _ _ _ _ (boxN w3 u) | change Exit.then _ _ _ _ (boxN w3 u))
      | (with_reducible show wpList _ _ _ ({ dst := _, op := .load 61 _, type := _, pos := _, after := _, guard := _ } :: _) _ _
         refine wpList_load_row_want (by rfl) 61 _ rfl w3.heap.size rfl 61 u.cs.toArray (0, 0) _ HXb.out Tryz.underlying61 rfl (by rw [List.size_toArray, Nd.cs_length]; kernel_rfl) ?_)
      | (with_reducible show wpList _ _ _ ({ dst := _, op := .load 46 _, type := _, pos := _, after := _, guard := _ } :: _) _ _
         refine wpList_load_mid rfl 46 _ rfl w3.heap.size 1 rfl [.int .u64 u.set.w0, .int .u64 u.set.w1, .int .u64 u.set.w2, .int .u64 u.set.w3] _ HSr.out Tryz.underlying46 rfl (by kernel_rfl) ?_)
      | fail)
    refine HM.out.mono ?_
    rintro e w5 ⟨v5, ms, rfl, hr5, hnd, hmm, hb5⟩
    have hin5 : ∀ y ∈ ms, isIn ns y ∧ y < id := fun y hy => HMm.out y ((hmm y).1 hy)
    have hms : ∀ y, y ∈ ms ↔ y ∈ mem ns 4 id := fun y => by
      rw [hmm y, mem_node HFi.out (by omega) HX.out (by rw [HK.out.1]; exact HKd.out), HK.out.2.1, HK.out.2.2, List.mem_append]
    have hlen : ms.length ≤ 20000 := Nat.le_trans (nodup_in hnd (fun z hz => (hin5 z hz).1)) HFw.out
    have hG5 := HG.out.next hb5
    have hkl : KeepsL (XY p F) w5 v5 ms := IdRow.keepsL hr5 (fun b q => HG.out.lw.lowY b q) (fun y hy => isIn_IsI HFw.out (hin5 y hy).1) hlen
    have HC := Lib.hid (lOrLeft hG5.lw hkl (ofLeft (F := F) (many := many) HIH.out ms (fun y hy => by obtain ⟨q1, q2⟩ := hin5 y hy; refine ⟨q1, ?_⟩; have := HRk.out; unfold isIn at q1; omega)))
    have HG5 := Lib.hid hG5
    have HMs := Lib.hid hms
    obtain ⟨A5, c5, hv5, _⟩ := hkl.here
    subst hv5
    clear hr5 hnd hmm hb5 hin5 hms hG5 hkl
    go_wp2_with fail
    refine HC.out.mono ?_
    rintro e w6 ⟨v6, f, ns6, F6, many6, rfl, hg6, hk6, hi6, hd6⟩
    obtain ⟨A6, c6, hv6⟩ := hk6.at
    subst hv6
    have HG6 := Lib.hid (HG5.out.trans hg6)
    have HK6 := Lib.hid hk6
    have HI6 := Lib.hid hi6
    have HD6 := Lib.hid hd6
    clear hg6 hk6 hi6 hd6
    go_wp2_with fail
    go_ret
    exact LAns.done HG6.out HK6.out HI6.out (fun q => den_mem4 HFi.out HI.out HMs.out (HD6.out q))
  have hb4 := (int_ne hk4).1
  clear hk4
  by_cases hk5 : u.kind = 5
  · have HKd := Lib.hid hk5
    rw [hk5] at ck
    clear hk5 hb2 hb3 hb4
    obtain ⟨⟨ia, la⟩, ib, lb⟩ := in_two HFi.out HX.out (by rw [HK.out.1]; have := HKd.out; omega)
    rw [HK.out.2.1] at ia la
    rw [HK.out.2.2] at ib lb
    have HM := Lib.hid (lMembers 5 (by omega) HG.out.lw u HKd.out ia ib)
    have HMm : Hid (∀ y, (y ∈ mem ns 5 u.a ∨ y ∈ mem ns 5 u.b) → isIn ns y ∧ y < id) := Lib.hid (fun y hy => by
      rcases hy with hy | hy
      · obtain ⟨q1, q2, _⟩ := mem_in HFi.out (by omega) _ u.a (Nat.le_refl _) ia y hy
        exact ⟨q1, by omega⟩
      · obtain ⟨q1, q2, _⟩ := mem_in HFi.out (by omega) _ u.b (Nat.le_refl _) ib y hy
        exact ⟨q1, by omega⟩)
    clear ia la ib lb
    go_wp2_with (first
      | (with_reducible show wpList _ _ _ ({ dst := none, op := .store 61 _ _, type := _, pos := _, after := _, guard := _ } :: _) _ _
         refine wpList_store_row rfl 61 _ _ rfl w3.heap.size u.cs.toArray rfl rfl 61 Nd.zero.cs.toArray (At.new _ _ _) (by kernel_rfl) rfl hone ?_
         first | change wpList _ _ _ _ _ (boxN w3 u) | change Exit.then _ _ _ _ (boxN w3 u))
      | (with_reducible show wpList _ _ _ ({ dst := _, op := .load 61 _, type := _, pos := _, after := _, guard := _ } :: _) _ _
         refine wpList_load_row_want (by rfl) 61 _ rfl w3.heap.size rfl 61 u.cs.toArray (0, 0) _ HXb.out Tryz.underlying61 rfl (by rw [List.size_toArray, Nd.cs_length]; kernel_rfl) ?_)
      | (with_reducible show wpList _ _ _ ({ dst := _, op := .load 46 _, type := _, pos := _, after := _, guard := _ } :: _) _ _
         refine wpList_load_mid rfl 46 _ rfl w3.heap.size 1 rfl [.int .u64 u.set.w0, .int .u64 u.set.w1, .int .u64 u.set.w2, .int .u64 u.set.w3] _ HSr.out Tryz.underlying46 rfl (by kernel_rfl) ?_)
      | fail)
    refine HM.out.mono ?_
    rintro e w5 ⟨v5, ms, rfl, hr5, hnd, hmm, hb5⟩
    have hin5 : ∀ y ∈ ms, isIn ns y ∧ y < id := fun y hy => HMm.out y ((hmm y).1 hy)
    have hms : ∀ y, y ∈ ms ↔ y ∈ mem ns 5 id := fun y => by
      rw [hmm y, mem_node HFi.out (by omega) HX.out (by rw [HK.out.1]; exact HKd.out), HK.out.2.1, HK.out.2.2, List.mem_append]
    have hlen : ms.length ≤ 20000 := Nat.le_trans (nodup_in hnd (fun z hz => (hin5 z hz).1)) HFw.out
    have hG5 := HG.out.next hb5
    have hkl : KeepsL (XY p F) w5 v5 ms := IdRow.keepsL hr5 (fun b q => HG.out.lw.lowY b q) (fun y hy => isIn_IsI HFw.out (hin5 y hy).1) hlen
    have HC := Lib.hid (lAndLeft hG5.lw hkl hlen (ofLeft (F := F) (many := many) HIH.out ms (fun y hy => by obtain ⟨q1, q2⟩ := hin5 y hy; refine ⟨q1, ?_⟩; have := HRk.out; unfold isIn at q1; omega)))
    have HG5 := Lib.hid hG5
    have HMs := Lib.hid hms
    obtain ⟨A5, c5, hv5, _⟩ := hkl.here
    subst hv5
    clear hr5 hnd hmm hb5 hin5 hms hG5 hkl
    go_wp2_with fail
    refine HC.out.mono ?_
    rintro e w6 ⟨v6, f, ns6, F6, many6, rfl, hg6, hk6, hi6, hd6⟩
    obtain ⟨A6, c6, hv6⟩ := hk6.at
    subst hv6
    have HG6 := Lib.hid (HG5.out.trans hg6)
    have HK6 := Lib.hid hk6
    have HI6 := Lib.hid hi6
    have HD6 := Lib.hid hd6
    clear hg6 hk6 hi6 hd6
    go_wp2_with fail
    go_ret
    exact LAns.done HG6.out HK6.out HI6.out (fun q => den_mem5 HFi.out HI.out HMs.out (HD6.out q))
  have hb5 := (int_ne hk5).1
  clear hk5
  by_cases hk6 : u.kind = 6
  · have HKd := Lib.hid hk6
    rw [hk6] at ck
    clear hk6 hb2 hb3 hb4 hb5
    obtain ⟨ia, la⟩ := in_one HFi.out HX.out (by rw [HK.out.1]; have := HKd.out; omega)
    have HCh := Lib.hid (HIH.out u.a.toNat (by have := HRk.out; rw [HK.out.2.1] at ia la; unfold isIn at ia; omega) p u.a (by rw [← HK.out.2.1]; exact ia) (Nat.le_refl _) HG.out.lw)
    have HIa := Lib.hid ia
    clear ia la
    go_wp2_with (first
      | (with_reducible show wpList _ _ _ ({ dst := none, op := .store 61 _ _, type := _, pos := _, after := _, guard := _ } :: _) _ _
         refine wpList_store_row rfl 61 _ _ rfl w3.heap.size u.cs.toArray rfl rfl 61 Nd.zero.cs.toArray (At.new _ _ _) (by kernel_rfl) rfl hone ?_
         first | change wpList _ _ _ _ _ (boxN w3 u) | change Exit.then _ _ _ _ (boxN w3 u))
      | (with_reducible show wpList _ _ _ ({ dst := _, op := .load 61 _, type := _, pos := _, after := _, guard := _ } :: _) _ _
         refine wpList_load_row_want (by rfl) 61 _ rfl w3.heap.size rfl 61 u.cs.toArray (0, 0) _ HXb.out Tryz.underlying61 rfl (by rw [List.size_toArray, Nd.cs_length]; kernel_rfl) ?_)
      | (with_reducible show wpList _ _ _ ({ dst := _, op := .load 46 _, type := _, pos := _, after := _, guard := _ } :: _) _ _
         refine wpList_load_mid rfl 46 _ rfl w3.heap.size 1 rfl [.int .u64 u.set.w0, .int .u64 u.set.w1, .int .u64 u.set.w2, .int .u64 u.set.w3] _ HSr.out Tryz.underlying46 rfl (by kernel_rfl) ?_)
      | fail)
    refine HCh.out.mono ?_
    rintro e w4 ⟨v4, f4, ns4, F4, many4, rfl, hg4, hk4, hi4, hd4⟩
    have HDu := Lib.hid (lDual hg4.lw hk4 hi4)
    obtain ⟨A4, c4, hv4⟩ := hk4.at
    subst hv4
    have HG4 := Lib.hid (HG.out.trans hg4)
    have HI4 := Lib.hid hi4
    have HD4 := Lib.hid hd4
    clear hg4 hk4 hi4 hd4
    go_wp2_with fail
    refine HDu.out.mono ?_
    rintro e w5 ⟨v5, d5, ns5, F5, many5, rfl, hg5, hk5, hi5, hd5⟩
    have HRe := Lib.hid (lReplOpposite hg5.lw hk5 hi5 (fun q hq => ofOpp q (fun y hy => hi5.inF q hq y hy)))
    obtain ⟨A5, c5, hv5⟩ := hk5.at
    subst hv5
    have HG45 := Lib.hid hg5
    have HG5 := Lib.hid (HG4.out.trans hg5)
    have HD5 := Lib.hid hd5
    clear hg5 hk5 hi5 hd5
    go_wp2_with fail
    refine HRe.out.mono ?_
    rintro e w6 ⟨v6, f, ns6, F6, many6, rfl, hg6, hk6, hi6, hd6⟩
    obtain ⟨A6, c6, hv6⟩ := hk6.at
    subst hv6
    have HG46 := Lib.hid hg6
    have HG6 := Lib.hid (HG5.out.trans hg6)
    have HK6 := Lib.hid hk6
    have HI6 := Lib.hid hi6
    have HD6 := Lib.hid hd6
    clear hg6 hk6 hi6 hd6
    go_wp2_with fail
    go_ret
    refine LAns.done HG6.out HK6.out HI6.out (fun hm => ?_)
    have hm5 : many5 = false := by cases many5 with | false => rfl | true => have := HG46.out.mono rfl; rw [hm] at this; cases this
    have hm4 : many4 = false := by cases many4 with | false => rfl | true => have := HG45.out.mono rfl; rw [hm5] at this; cases this
    obtain ⟨m, rfl⟩ := HG45.out.more
    exact left_not HFi.out HI.out (by rw [HK.out.1]; exact HKd.out) (by rw [HK.out.2.1]; exact Den.up (HD4.out hm4) HI4.out.inF m) (HD5.out hm5).2 (HD6.out hm)
  have hb6 := (int_ne hk6).1
  clear hk6
  by_cases hk7 : u.kind = 7
  · have HKd := Lib.hid hk7
    rw [hk7] at ck
    clear hk7 hb2 hb3 hb4 hb5 hb6
    obtain ⟨ia, la⟩ := in_one HFi.out HX.out (by rw [HK.out.1]; have := HKd.out; omega)
    have HCh := Lib.hid (HIH.out u.a.toNat (by have := HRk.out; rw [HK.out.2.1] at ia la; unfold isIn at ia; omega) p u.a (by rw [← HK.out.2.1]; exact ia) (Nat.le_refl _) HG.out.lw)
    have HIa := Lib.hid ia
    clear ia la
    go_wp2_with (first
      | (with_reducible show wpList _ _ _ ({ dst := none, op := .store 61 _ _, type := _, pos := _, after := _, guard := _ } :: _) _ _
         refine wpList_store_row rfl 61 _ _ rfl w3.heap.size u.cs.toArray rfl rfl 61 Nd.zero.cs.toArray (At.new _ _ _) (by kernel_rfl) rfl hone ?_
         first | change wpList _ _ _ _ _ (boxN w3 u) | change Exit.then _ _ _ _ (boxN w3 u))
      | (with_reducible show wpList _ _ _ ({ dst := _, op := .load 61 _, type := _, pos := _, after := _, guard := _ } :: _) _ _
         refine wpList_load_row_want (by rfl) 61 _ rfl w3.heap.size rfl 61 u.cs.toArray (0, 0) _ HXb.out Tryz.underlying61 rfl (by rw [List.size_toArray, Nd.cs_length]; kernel_rfl) ?_)
      | (with_reducible show wpList _ _ _ ({ dst := _, op := .load 46 _, type := _, pos := _, after := _, guard := _ } :: _) _ _
         refine wpList_load_mid rfl 46 _ rfl w3.heap.size 1 rfl [.int .u64 u.set.w0, .int .u64 u.set.w1, .int .u64 u.set.w2, .int .u64 u.set.w3] _ HSr.out Tryz.underlying46 rfl (by kernel_rfl) ?_)
      | fail)
    refine HCh.out.mono ?_
    rintro e w4 ⟨v4, f4, ns4, F4, many4, rfl, hg4, hk4, hi4, hd4⟩
    have HRe := Lib.hid (lAhead id hg4.lw hk4 hi4 (hg4.isIn HI.out))
    obtain ⟨A4, c4, hv4⟩ := hk4.at
    subst hv4
    have HG4 := Lib.hid (HG.out.trans hg4)
    have HI4 := Lib.hid hi4
    have HD4 := Lib.hid hd4
    clear hg4 hk4 hi4 hd4
    go_wp2_with fail
    refine HRe.out.mono ?_
    rintro e w6 ⟨v6, f, ns6, F6, many6, rfl, hg6, hk6, hi6, hd6⟩
    obtain ⟨A6, c6, hv6⟩ := hk6.at
    subst hv6
    have HG46 := Lib.hid hg6
    have HG6 := Lib.hid (HG4.out.trans hg6)
    have HK6 := Lib.hid hk6
    have HI6 := Lib.hid hi6
    have HD6 := Lib.hid hd6
    clear hg6 hk6 hi6 hd6
    go_wp2_with fail
    go_ret
    refine LAns.done HG6.out HK6.out HI6.out (fun hm => ?_)
    have hm4 : many4 = false := by cases many4 with | false => rfl | true => have := HG46.out.mono rfl; rw [hm] at this; cases this
    obtain ⟨m, rfl⟩ := HG4.out.more
    exact left_star HFi.out HI.out (by rw [HK.out.1]; exact HKd.out) (by rw [HK.out.2.1]; exact HD4.out hm4) (fun l bits => nodeT_up l bits m HI.out) (HD6.out hm)
  have hb7 := (int_ne hk7).1
  clear hk7
  have HC := Lib.hid (lFalse (boxN w3 u))
  have HKn : Hid (kd ns id = 0 ∨ kd ns id = 1 ∨ kd ns id = 8) := Lib.hid (by
    have k := kind_in HFi.out HX.out
    rw [HK.out.1] at k ⊢
    have k2 : u.kind ≠ 2 := fun q => by rw [q] at hb2; cases hb2
    have k3 : u.kind ≠ 3 := fun q => by rw [q] at hb3; cases hb3
    have k4 : u.kind ≠ 4 := fun q => by rw [q] at hb4; cases hb4
    have k5 : u.kind ≠ 5 := fun q => by rw [q] at hb5; cases hb5
    have k6 : u.kind ≠ 6 := fun q => by rw [q] at hb6; cases hb6
    have k7 : u.kind ≠ 7 := fun q => by rw [q] at hb7; cases hb7
    omega)
  clear cA cB
  go_wp2_with (first
      | (with_reducible show wpList _ _ _ ({ dst := none, op := .store 61 _ _, type := _, pos := _, after := _, guard := _ } :: _) _ _
         refine wpList_store_row rfl 61 _ _ rfl w3.heap.size u.cs.toArray rfl rfl 61 Nd.zero.cs.toArray (At.new _ _ _) (by kernel_rfl) rfl hone ?_
         first | change wpList _ _ _ _ _ (boxN w3 u) | change Exit.then _ _ _ _ (boxN w3 u))
      | (with_reducible show wpList _ _ _ ({ dst := _, op := .load 61 _, type := _, pos := _, after := _, guard := _ } :: _) _ _
         refine wpList_load_row_want (by rfl) 61 _ rfl w3.heap.size rfl 61 u.cs.toArray (0, 0) _ HXb.out Tryz.underlying61 rfl (by rw [List.size_toArray, Nd.cs_length]; kernel_rfl) ?_)
      | (with_reducible show wpList _ _ _ ({ dst := _, op := .load 46 _, type := _, pos := _, after := _, guard := _ } :: _) _ _
         refine wpList_load_mid rfl 46 _ rfl w3.heap.size 1 rfl [.int .u64 u.set.w0, .int .u64 u.set.w1, .int .u64 u.set.w2, .int .u64 u.set.w3] _ HSr.out Tryz.underlying46 rfl (by kernel_rfl) ?_)
      | fail)
  refine HC.out.mono ?_
  rintro e w5 ⟨A5, c5, rfl, hf5, hb5⟩
  have HK5 := Lib.hid (FmFrom.keeps HG.out.lw hf5)
  have HG5 := Lib.hid (HG.out.next hb5)
  clear hf5
  go_wp2_with fail
  go_ret
  exact LAns.done HG5.out HK5.out (FmIn.nil _) (fun q => left_no HFi.out HI.out HKn.out)
end
theorem leIs : ∀ n : Nat, LeIs n := fun n => Nat.strongRecOn n (fun n IH => fun p w ns F many id hi hr hw => by
  refine lLeftAt id (isIn_I64 hw.few hi) hw (Or.inl hi) (fun hm => ?_)
  exact lLeftOf (n := id.toNat) (fun k hk => IH k (Nat.lt_of_lt_of_le hk hr)) id hw hi rfl)
section
variable {p : LP} {w : World} {ns : List Nd} {F : Nat → Prop} {many : Bool}
theorem ofLeftAll (ms : List Int) (hm : ∀ y ∈ ms, isIn ns y) : OfIs p w ns F many 44 (fun x => #[.pointer (some ⟨p.gw, 0, none⟩), .int .i64 x]) ms (V1 p.b p.bt) 1 (ndTv ns) := ofLeft (n := ns.length) (fun k _ => leIs k) ms (fun y hy => ⟨hm y hy, by have := hm y hy; unfold isIn at this; omega⟩)
end

end Go.Proofs.YthifbaacmohmnaaGreat

/- begin of package linear. -/
namespace Go.Proofs.YthifbaacmohmnaaGreat
open Go.RowKit
set_option linter.unusedSimpArgs false
set_option linter.unusedVariables false

/-- A walk that has just begun. -/
structure Begun (p : LP) (w : World) (a : Value) (ns : List Nd) (F : Nat → Prop) (b bt : Nat) (w' : World) : Prop where
  lw : LW p w' ns F false
  below : Below w.heap.size w w'
  a : p.a = a
  b : p.b = b
  bt : p.bt = bt
  before : p.before = ns.length
  y : ∀ x, ¬ p.y x
  new : w.heap.size ≤ p.gw ∧ w.heap.size ≤ p.mf ∧ w.heap.size ≤ p.ml ∧ w.heap.size ≤ p.mn
set_option maxRecDepth 100000 in
set_option maxHeartbeats 4000000 in
theorem lBegin {w : World} {a : Value} {ns : List Nd} {F : Nat → Prop} (b bt : Nat) (h : AA w a ns F) (hb : b < 256) (hbt : bt < 256) :
    Calls Tryz.prog 25 #[a, .int .u8 b, .int .u8 bt] w fun e w' => ∃ p, e = .returned (.pointer (some ⟨p.gw, 0, none⟩)) ∧ Begun p w a ns F b bt w' := by
  obtain ⟨gp, hgp⟩ := arenaMid.ptr h
  have HA := Lib.hid h
  have HP := Lib.hid hgp
  obtain ⟨w1, hw1⟩ : ∃ w1, w1 = w.alloc (.map #[] 0) := ⟨_, rfl⟩
  obtain ⟨w2, hw2⟩ : ∃ w2, w2 = w1.alloc (.map #[] 0) := ⟨_, rfl⟩
  obtain ⟨w3, hw3⟩ : ∃ w3, w3 = w2.alloc (.map #[] 0) := ⟨_, rfl⟩
  have s1 : w1.heap.size = w.heap.size + 1 := by rw [hw1, World.size_alloc]
  have s2 : w2.heap.size = w.heap.size + 2 := by rw [hw2, World.size_alloc, s1]
  have s3 : w3.heap.size = w.heap.size + 3 := by rw [hw3, World.size_alloc, s2]
  have hb1 : Below w1.heap.size w1 w3 := by rw [hw3, hw2]; exact ((Below.refl _ _).alloc (Nat.le_refl _) _).alloc (by rw [World.size_alloc]; omega) _
  have hb2 : Below w2.heap.size w2 w3 := by rw [hw3]; exact (Below.refl _ _).alloc (Nat.le_refl _) _
  have hb0 : Below w.heap.size w w3 := by rw [hw3, hw2, hw1]; exact (((Below.refl _ _).alloc (Nat.le_refl _) _).alloc (by rw [World.size_alloc]; omega) _).alloc (by rw [World.size_alloc, World.size_alloc]; omega) _
  have k1 : MapF w3 w.heap.size [] (fun _ => .slice none 0 0) := (by rw [hw1]; exact MapF.made w _ : MapF w1 w.heap.size [] (fun _ => .slice none 0 0)).kept (hb1.block _ (by omega))
  have k2 : MapF w3 w1.heap.size [] (fun _ => .slice none 0 0) := (by rw [hw2]; exact MapF.made w1 _ : MapF w2 w1.heap.size [] (fun _ => .slice none 0 0)).kept (hb2.block _ (by omega))
  have k3 : KnownAt w3 w2.heap.size (nullS ns bt) [] := by rw [hw3]; exact KnownAt.made w2 _
  rw [s1] at k2
  rw [s2] at k3
  obtain ⟨w4, hw4⟩ : ∃ w4, w4 = w3.alloc (.cells #[a, .int .u8 b, .int .u8 bt, .map (some w.heap.size), .map (some (w.heap.size + 1)), .map (some (w.heap.size + 2)), .int .i64 ns.length, .bool false] 101) := ⟨_, rfl⟩
  have hb4 : Below w3.heap.size w3 w4 := by rw [hw4]; exact (Below.refl _ _).alloc (Nat.le_refl _) _
  have HB4 : Hid (Begun ⟨w.heap.size + 3, w.heap.size, w.heap.size + 1, w.heap.size + 2, a, b, bt, ns.length, fun _ => False⟩ w a ns F b bt w4) := Lib.hid (by
    have hlow := AA.low h
    refine ⟨⟨(h.next hb0).next hb4, ?_, ⟨_, _, k1.kept (hb4.block _ (by omega)), fun x hx => by cases hx⟩, ⟨_, _, k2.kept (hb4.block _ (show w.heap.size + 1 < w3.heap.size by omega)), fun x hx => by cases hx⟩, ⟨[], k3.kept (hb4.block _ (show w.heap.size + 2 < w3.heap.size by omega)), List.nodup_nil, fun z hz => by cases hz⟩, ?_, ?_, ⟨hb, hbt⟩, fun x q => q.elim⟩, hb0.trans (hb4.mono (by omega)), rfl, rfl, rfl, rfl, fun x q => q, ?_⟩
    · rw [hw4]
      have := At.new w3 101 #[a, .int .u8 b, .int .u8 bt, .map (some w.heap.size), .map (some (w.heap.size + 1)), .map (some (w.heap.size + 2)), .int .i64 ns.length, .bool false]
      rw [s3] at this
      exact this
    · simp only; omega
    · exact ⟨fun q => absurd (show w.heap.size + 3 < w.heap.size from hlow _ q) (by omega), fun q => absurd (show w.heap.size < w.heap.size from hlow _ q) (by omega), fun q => absurd (show w.heap.size + 1 < w.heap.size from hlow _ q) (by omega), fun q => absurd (show w.heap.size + 2 < w.heap.size from hlow _ q) (by omega)⟩
    · simp only; omega)
  have HLe := Lib.hid (arenaMid.len (h.next hb0))
  rw [hgp] at HLe hw4
  rw [hw3, hw2, hw1] at HLe hw4
  have HW4 := Lib.hid hw4
  have hmm := @run_makeMap Tryz.prog
  rw [hgp]
  clear h hgp hw1 hw2 hw3 hw4 s1 s2 s3 hb1 hb2 hb0 k1 k2 k3 hb4
  go_enter Tryz.func25, Tryz.ntmps25
  go_wp2_with fail
  refine HLe.out.mono ?_
  rintro e w5 ⟨rfl, rfl⟩
  go_wp2_with fail
  go_ret
  have hB := HB4.out
  rw [HP.out] at hB
  refine ⟨_, ?_, by rw [HW4.out] at hB; exact hB⟩
  simp [World.size_alloc]

end Go.Proofs.YthifbaacmohmnaaGreat
