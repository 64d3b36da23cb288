/- Joined: LwAwakeA, LinIs. -/
import Derived.Test.YthifbaacmohmnaaGreatMbr
/- bolterlaw12.awake; what package linear does. -/
namespace Go.Proofs.YthifbaacmohmnaaGreat
open Go.RowKit
set_option linter.unusedSimpArgs false
set_option linter.unusedVariables false

/-- An answer without too much. -/
def LOk (p : LP) (w : World) (ns : List Nd) (F : Nat → Prop) (id : Int) (e : Ending) (w1 : World) : Prop := ∃ (v : Value) (f : Fm) (ns1 : List Nd) (F1 : Nat → Prop), e = .returned v ∧ Grow p w ns F false w1 ns1 F1 false ∧ Keeps (XY p F1) w1 v f ∧ FmIn (Ls ns1) f ∧ OfR ns id ns1 f
section
variable {p : LP} {w : World} {ns : List Nd} {F : Nat → Prop}
set_option maxRecDepth 100000 in
set_option maxHeartbeats 8000000 in
theorem lOfLeaf (id : Int) (h : LW p w ns F false) (hin : isIn ns id) (hk : kd ns id = 1) :
    Calls Tryz.prog 62 #[.pointer (some ⟨p.gw, 0, none⟩), .int .i64 id] w (LOk p w ns F id) := by
  have HX := Lib.hid hin
  have HI := Lib.hid hin
  have HKi := Lib.hid hk
  have IH := True.intro
  clear hin hk
  have HW := Lib.hid h
  have HIH := Lib.hid IH
  obtain ⟨gp, hgp⟩ := arenaMid.ptr h.ar
  have HN := Lib.hid (arenaMid.node id h.ar (isIn_I64 h.few HX.out))
  rw [show decide (0 ≤ id ∧ id < (ns.length : Int)) = true from decide_eq_true HX.out] at HN
  have c0 := h.cells.1
  rw [hgp] at c0 HN
  have HFi := Lib.hid h.fine
  have HFw := Lib.hid h.few
  clear h IH hgp
  go_enter Tryz.func62, Tryz.ntmps62
  go_wp2_with fail
  refine HN.out.mono ?_
  rintro e w3 ⟨u, rfl, hu, hb3, _⟩
  have hu := hu HX.out
  have HK : Hid (kd ns id = u.kind ∧ ka ns id = u.a ∧ kb ns id = u.b) := Lib.hid ⟨by unfold kd; rw [← hu], by unfold ka; rw [← hu], by unfold kb; rw [← hu]⟩
  have HU := Lib.hid hu
  have HXb := Lib.hid (boxN_at w3 u)
  have HG := Lib.hid (Grow.of HW.out (hb3.trans ((boxN_next w3 u).mono hb3.size)))
  have hone := Nd.one u
  have ck := (Nd.cells HXb.out).1
  have cA := (Nd.cells HXb.out).2.2.2.2.2.1
  clear hu hb3
  have HU1 : Hid (u.kind = 1) := Lib.hid (by rw [← HK.out.1]; exact HKi.out)
  rw [HU1.out] at ck
  have HC := Lib.hid (lAtom (boxN w3 u) id (by have := HI.out; unfold isIn at this; omega) (isIn_IsI HFw.out HI.out))
  clear cA
  go_wp2_with (first
      | (with_reducible show wpList _ _ _ ({ dst := none, op := .store 61 _ _, type := _, pos := _, after := _, guard := _ } :: _) _ _
         refine wpList_store_row rfl 61 _ _ rfl w3.heap.size u.cs.toArray rfl rfl 61 Nd.zero.cs.toArray (At.new _ _ _) (by kernel_rfl) rfl hone ?_
         first | change wpList _ _ _ _ _ (boxN w3 u) | change Exit.then _ _ _ _ (boxN w3 u))
      | (with_reducible show wpList _ _ _ ({ dst := _, op := .load 61 _, type := _, pos := _, after := _, guard := _ } :: _) _ _
         refine wpList_load_row_want (by rfl) 61 _ rfl w3.heap.size rfl 61 u.cs.toArray (0, 0) _ HXb.out Tryz.underlying61 rfl (by rw [List.size_toArray, Nd.cs_length]; kernel_rfl) ?_)
      | fail)
  refine HC.out.mono ?_
  rintro e w5 ⟨A5, c5, rfl, hf5, hb5⟩
  have HK5 := Lib.hid (FmFrom.keeps HG.out.lw hf5)
  have HG5 := Lib.hid (HG.out.next hb5)
  clear hf5 hb5
  go_wp2_with fail
  go_ret
  have hfm : FmIn (Ls ns) [[id]] := FmIn.atom (by have := HI.out; unfold isIn at this; omega) (ls_mem.2 HI.out)
  exact ⟨_, _, _, _, rfl, HG5.out, HK5.out, hfm, of_self⟩
set_option maxRecDepth 100000 in
set_option maxHeartbeats 4000000 in
theorem lFormulaLeaf (id : Int) (h : LW p w ns F false) (hin : isIn ns id) (hk : kd ns id = 1) :
    Calls Tryz.prog 27 #[.pointer (some ⟨p.gw, 0, none⟩), .int .i64 id] w (LOk p w ns F id) := by
  have hid := isIn_I64 h.few hin
  have HO : Hid (Calls Tryz.prog 61 #[.pointer (some ⟨p.gw, 0, none⟩), .map (some p.mf), .int .i64 id, .func (.func 62) #[.pointer (some ⟨p.gw, 0, none⟩)] #[]] w (LOk p w ns F id)) := Lib.hid (by
    obtain ⟨s, get, k1, k2⟩ := h.fo.ex
    have hlk := k1.look hid
    have HW := Lib.hid h
    have c7 := h.cells.2.2.2.2.2.2.2
    by_cases hs : id ∈ s
    · obtain ⟨hi, f, hk, hfi, hR⟩ := k2 id hs
      obtain ⟨A, c, hv⟩ := hk.at
      rw [if_pos hs, decide_eq_true hs, hv] at hlk
      rw [hv] at hk
      have HK := Lib.hid hk
      have HI := Lib.hid hfi
      have HRo := Lib.hid (hR rfl)
      clear h hin k1 k2 hs hi hv hk hfi hR
      go_enter Tryz.func61, Tryz.ntmps61
      go_wp2_with fail
      go_ret
      exact ⟨_, _, _, _, rfl, Grow.refl HW.out, HK.out, HI.out, HRo.out⟩
    rw [if_neg hs, decide_eq_false hs] at hlk
    have HIn := Lib.hid hin
    have HC := Lib.hid (lOfLeaf id h hin hk)
    clear h hin k1 k2 hs hk
    go_enter Tryz.func61, Tryz.ntmps61
    go_wp2_with fail
    refine HC.out.mono ?_
    rintro e w3 ⟨v3, f, ns3, F3, rfl, hg3, hk3, hi3, hd3⟩
    obtain ⟨A3, c3, hv3⟩ := hk3.at
    subst hv3
    obtain ⟨w4, hr4, hg4⟩ := hg3.lw.storeFo (hg3.isIn HIn.out) hk3 hi3 (fun _ => by
      obtain ⟨m, rfl⟩ := hg3.more
      unfold OfR at hd3 ⊢
      rw [ndTv_up HIn.out]
      exact hd3)
    have HG4 := Lib.hid (hg3.trans hg4)
    have HK4 := Lib.hid (hk3.grow hg4)
    have HI4 := Lib.hid hi3
    have HD4 := Lib.hid hd3
    clear hg3 hk3 hi3 hd3 hg4
    go_wp2_with fail
    go_ret
    exact ⟨_, _, _, _, rfl, HG4.out, HK4.out, HI4.out, HD4.out⟩)
  have cm := h.cells.2.2.2.1
  clear h hin hk
  go_enter Tryz.func27, Tryz.ntmps27
  go_wp2_with fail
  refine HO.out.mono ?_
  rintro e w3 ⟨v3, f, ns3, F3, rfl, hg3, hk3, hi3, hd3⟩
  obtain ⟨A3, c3, hv3⟩ := hk3.at
  subst hv3
  have HG := Lib.hid hg3
  have HK := Lib.hid hk3
  have HI := Lib.hid hi3
  have HD := Lib.hid hd3
  clear hg3 hk3 hi3 hd3
  go_wp2_with fail
  go_ret
  exact ⟨_, _, _, _, rfl, HG.out, HK.out, HI.out, HD.out⟩
end

end Go.Proofs.YthifbaacmohmnaaGreat

/- bolterlaw12.awake; what package linear does. -/
namespace Go.Proofs.YthifbaacmohmnaaGreat
open Go.RowKit
set_option linter.unusedSimpArgs false
set_option linter.unusedVariables false

set_option maxRecDepth 100000 in
set_option maxHeartbeats 4000000 in
theorem lOfOk {w : World} {a : Value} {ns : List Nd} {F : Nat → Prop} (id : Int) (h : AA w a ns F) (hin : isIn ns id) (hk : kd ns id = 1) : Calls Tryz.prog 8 #[a, .int .i64 id] w fun e w' => ∃ (A : Option Addr) (n c : Nat) (f : Fm) (more : List Nd) (F' : Nat → Prop), e = .returned (.tuple #[.slice A n c, .int .i64 0]) ∧ AA w' a (ns ++ more) F' ∧ (∀ b, F' b → F b ∨ w.heap.size ≤ b) ∧ OffF F w w' ∧ Keeps F' w' (.slice A n c) f ∧ OkL (ns ++ more) f ∧ OfR ns id (ns ++ more) f := by
  have HH := Lib.hid (lHas id h)
  rw [show decide (0 ≤ id ∧ id < (ns.length : Int)) = true from decide_eq_true hin] at HH
  have HB := Lib.hid (lBegin 0 0 h (by omega) (by omega))
  have HI := Lib.hid hin
  have HKd := Lib.hid hk
  clear h hin hk
  go_enter Tryz.func8, Tryz.ntmps8
  go_wp2_with fail
  refine HH.out.mono ?_
  rintro e w1 ⟨rfl, rfl⟩
  go_wp2_with fail
  refine HB.out.mono ?_
  rintro e w2 ⟨p, rfl, hb⟩
  have HBg := Lib.hid hb
  have HF := Lib.hid (lFormulaLeaf id hb.lw HI.out HKd.out)
  clear hb
  go_wp2_with fail
  refine HF.out.mono ?_
  rintro e w3 ⟨v3, f, ns3, F3, rfl, hg3, hk3, hi3, hd3⟩
  obtain ⟨A3, c3, hv3⟩ := hk3.at
  subst hv3
  have c7 := hg3.lw.cells.2.2.2.2.2.2.2
  have HE : Hid (Calls Tryz.prog 26 #[.pointer (some ⟨p.gw, 0, none⟩), .slice A3 f.length c3] w3 fun e w' => e = .returned (.tuple #[.slice A3 f.length c3, .int .i64 0]) ∧ w' = w3) := Lib.hid (by
    clear hg3 hk3 hi3 hd3 HH HB HF
    go_enter Tryz.func26, Tryz.ntmps26
    go_wp2_with fail
    go_ret2
    exact ⟨rfl, rfl⟩)
  have HG3 := Lib.hid hg3
  have HK3 := Lib.hid hk3
  have HI3 := Lib.hid hi3
  have HD3 := Lib.hid hd3
  clear hg3 hk3 hi3 hd3 c7
  go_wp2_with fail
  refine HE.out.mono ?_
  rintro e w4 ⟨rfl, rfl⟩
  go_wp2_with fail
  go_ret2
  obtain ⟨m, rfl⟩ := HG3.out.more
  have hA := HG3.out.lw.ar
  rw [HBg.out.a] at hA
  exact ⟨_, _, _, f, m, F3, rfl, hA, HBg.out.low HG3.out, HBg.out.off HG3.out, HK3.out.less (fun k q => Or.inl (Or.inl q)), HI3.out, HD3.out⟩
theorem of_null {ns ms : List Nd} {id : Int} {f : Fm} (hf : FineN ns) (hi : isIn ns id) (hk : kd ns id = 1) (hm : InF ms f) (h : OfR ns id ms f) : fP (fun x => nullS ms 0 x) f = true := by
  have h1 := h [] [0] 0 0 ⟨(fun x hx => by cases hx), Nat.le_refl _, Nat.le_refl _⟩
  rw [show ndTv ns id [] [0] 0 0 = true from by unfold ndTv; rw [T_em hf hi hk]; rfl] at h1
  rw [← h1]
  exact fP_agree (fun p hp n hn => by
    have h2 := hm p hp n hn
    unfold isIn at h2
    unfold nullS
    rw [decide_eq_true h2, Bool.true_and])
set_option maxRecDepth 100000 in
set_option maxHeartbeats 8000000 in
theorem lAwake12 (w : World) : Calls Tryz.prog 5 #[] w fun e w' => e = .returned (.bool true) ∧ Below w.heap.size w w' := by
  go_enter Tryz.func5, Tryz.ntmps5
  go_wp2_with fail
  refine (aNew w).mono ?_
  rintro e w1 ⟨a, F1, rfl, hA1, hF1, hB1⟩
  obtain ⟨ga, rfl⟩ := arenaMid.ptr hA1
  have HB1 := Lib.hid hB1
  have HF1 := Lib.hid hF1
  have HA1 := Lib.hid hA1
  have HE := Lib.hid (nEmpty arenaMid hA1 canon_nil (by simp))
  clear hA1 hF1 hB1
  go_wp2_with fail
  refine HE.out.mono ?_
  rintro e w2 ⟨r, more, F2, rfl, hA2, hl2, ho2, _, hin, hk, _⟩
  rw [List.nil_append] at hA2 hin hk
  have HO := Lib.hid (lOfOk r hA2 hin hk)
  have HFi := Lib.hid (arenaMid.fine hA2)
  have HIn := Lib.hid hin
  have HKd := Lib.hid hk
  have HB2 : Hid (Below w.heap.size w w2) := Lib.hid (below_of_off HB1.out ho2 HF1.out)
  have HF2 : Hid (∀ b, F2 b → w.heap.size ≤ b) := Lib.hid (fun b q => by
    rcases hl2 b q with q | q
    · exact HF1.out b q
    · exact Nat.le_trans HB1.out.size q)
  clear hA2 hl2 ho2 hin hk
  go_wp2_with fail
  refine HO.out.mono ?_
  rintro e w3 ⟨A3, n3, c3, f, m3, F3, rfl, hA3, hl3, ho3, hk3, hi3, hd3⟩
  have HB3 : Hid (Below w.heap.size w w3) := Lib.hid (below_of_off HB2.out ho3 HF2.out)
  have HAc := Lib.hid (lAccepts 0 hA3 hk3.here hi3 (by omega))
  rw [of_null HFi.out HIn.out HKd.out (FmIn.inF hi3) hd3] at HAc
  clear hA3 hl3 ho3 hk3 hi3 hd3 HO
  go_wp2_with fail
  refine HAc.out.mono ?_
  rintro e w4 ⟨rfl, hb4⟩
  have HB4 := Lib.hid (HB3.out.trans (hb4.mono HB3.out.size))
  clear hb4
  go_wp2_with fail
  go_ret
  exact ⟨rfl, HB4.out⟩
theorem linSpec : LinSpec AA OkL where
  awake := lAwake12
  formed := fun h => h.fm
  inF := fun h => FmIn.inF h
  ofNo := fun id h hi hn => lOfNo id h hi hn
  of := fun id h hi => lOfIn id h hi
  next := fun b bt h hk hf hb hbt => lNext b bt h hk hf hb hbt
  accepts := fun bt h hv hf hbt => lAccepts bt h hv hf hbt

end Go.Proofs.YthifbaacmohmnaaGreat
