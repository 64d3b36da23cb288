/- Joined: LwForm, NormJoin, NormJoinM. -/
import Derived.Test.YthifbaacmohmnaaGreatMbg
import Derived.Test.YthifbaacmohmnaaGreatMav
/- formula and opposite of package linear. -/
namespace Go.Proofs.YthifbaacmohmnaaGreat
open Go.RowKit
set_option linter.unusedSimpArgs false
set_option linter.unusedVariables false

/-- formula, as far down as that. -/
def FoIs (n : Nat) : Prop := ∀ (p : LP) {w : World} {ns : List Nd} {F : Nat → Prop} {many : Bool} (id : Int), I64 id → (isIn ns id ∧ rk ns id ≤ n) ∨ (many = true ∧ ¬ isIn ns id) → LW p w ns F many → Calls Tryz.prog 27 #[.pointer (some ⟨p.gw, 0, none⟩), .int .i64 id] w (LAns p w ns F many fun ms f => OfR ns id ms f)
theorem opp_den {ns m : List Nd} {id r : Int} (hf : FineN (ns ++ m)) (hin : isIn ns id) (ri : isIn (ns ++ m) r) (hn : NotR (ns ++ m) id r) {ms : List Nd} {f : Fm} (h : OfR (ns ++ m) r ms f) : Den V0 0 (ndNv ns id) ms f := Den.val (show Den V0 0 (ndTv (ns ++ m) r) ms f from h) (fun l bits i j hv => by
  rw [← ndNv_up hin m]
  by_cases k : kd (ns ++ m) id = 6
  · have h1 := ndTv_not hf (hin.up m) k l bits hv.2.1
    rw [hn.2.1 k]
    unfold ndTv ndNv at *
    rw [h1, Bool.not_not]
  · obtain ⟨k1, k2⟩ := hn.2.2 k
    have h1 := ndTv_not hf ri k1 l bits hv.2.1
    rw [k2] at h1
    exact h1)
theorem isIn_I64 {ns : List Nd} {x : Int} (hn : ns.length ≤ 20000) (h : isIn ns x) : I64 x := by unfold isIn at h; unfold I64; omega
theorem isIn_IsI {ns : List Nd} {x : Int} (hn : ns.length ≤ 20000) (h : isIn ns x) : IsI x := by unfold isIn at h; unfold IsI; omega
section
variable {p : LP} {w : World} {ns : List Nd} {F : Nat → Prop} {many : Bool}
set_option maxRecDepth 100000 in
set_option maxHeartbeats 4000000 in
theorem lOppAt {n : Nat} (IH : FoIs n) (id : Int) (hn : 2 * id.toNat + 1 ≤ n) (h : LW p w ns F many) (hin : isIn ns id) :
    Calls Tryz.prog 114 #[.pointer (some ⟨p.gw, 0, none⟩), .int .i64 id] w (LAns p w ns F many fun ms f => Den V0 0 (ndNv ns id) ms f) := by
  have HN := Lib.hid (gNot arenaAny id h.ar hin)
  obtain ⟨gp, hgp⟩ := arenaMid.ptr h.ar
  have HP := Lib.hid hgp
  have HW := Lib.hid h
  have HI := Lib.hid hin
  have HIH := Lib.hid IH
  have c0 := h.cells.1
  rw [hgp] at c0 HN
  clear h hin hgp IH
  go_enter Tryz.func114, Tryz.ntmps114
  go_wp2_with fail
  refine HN.out.mono ?_
  rintro e w1 g
  rw [← HP.out] at g
  obtain ⟨r, ns1, F1, rfl, g1, g2⟩ := Got.grow HW.out g
  have HG1 := Lib.hid g1
  have HFt := Lib.hid (lFits g1.lw r)
  have HR := Lib.hid g2
  clear g g1 g2
  go_wp2_with fail
  refine HFt.out.mono ?_
  rintro e w2 ⟨rfl, g2⟩
  have HG2 := Lib.hid (HG1.out.trans g2)
  have HC : Hid (Calls Tryz.prog 27 #[.pointer (some ⟨p.gw, 0, none⟩), .int .i64 r] w2 (LAns p w2 ns1 F1 (many || decide (r < 0)) fun ms f => Den V0 0 (ndNv ns id) ms f)) := Lib.hid (by
    rcases HR.out with hr | ⟨ri, hnr⟩
    · subst hr
      exact (HIH.out p (-1) (by unfold I64; omega) (Or.inr ⟨by simp, by unfold isIn; omega⟩) g2.lw).mono (fun e w q => LAns.many (by simp) q)
    · have hfi := g2.lw.fine
      have hfw := g2.lw.few
      have hrk : rk ns1 r ≤ n := by
        have h0 := HI.out
        have h1 := HG1.out.isIn HI.out
        by_cases k : kd ns1 id = 6
        · have := hnr.2.1 k
          have h2 := rk_le hfi ri
          obtain ⟨a0, a1⟩ := in_one hfi h1 (by omega)
          rw [← this] at a0 a1
          unfold isIn at a0 h0
          omega
        · obtain ⟨k1, k2⟩ := hnr.2.2 k
          unfold rk
          rw [if_pos k1, k2]
          exact hn
      obtain ⟨m, rfl⟩ := HG1.out.more
      exact (HIH.out p r (isIn_I64 hfw ri) (Or.inl ⟨ri, hrk⟩) g2.lw).mono (fun e w q => q.mono (fun more f _ _ hR => opp_den hfi HI.out ri hnr hR)))
  clear g2
  go_wp2_with fail
  refine HC.out.mono ?_
  rintro e w3 ⟨v3, f, ns3, F3, many3, rfl, hg3, hk3, hi3, hd3⟩
  obtain ⟨A3, c3, hv3⟩ := hk3.at
  subst hv3
  have HG := Lib.hid (HG2.out.trans hg3)
  have HK := Lib.hid hk3
  have HI3 := Lib.hid hi3
  have HD := Lib.hid hd3
  clear hg3 hk3 hi3 hd3
  go_wp2_with fail
  go_ret
  exact LAns.done HG.out HK.out HI3.out HD.out
/-- What is handed to or, and: formula, opposite. -/
theorem ofFormula {n : Nat} (IH : ∀ k, k < n → FoIs k) (ms : List Int) (hm : ∀ y ∈ ms, isIn ns y ∧ 2 * y.toNat < n) (hw : ns.length ≤ 20000) : OfIs p w ns F many 27 (fun x => #[.pointer (some ⟨p.gw, 0, none⟩), .int .i64 x]) ms V0 0 (ndTv ns) := fun y' w1 ns1 F1 many1 y hy g => by
  obtain ⟨h1, h2⟩ := hm y hy
  have hr := rk_le g.lw.fine (g.isIn h1)
  refine (IH _ h2 { p with y := y' } y (isIn_I64 hw h1) (Or.inl ⟨g.isIn h1, hr⟩) g.lw).mono (fun e w q => q.mono (fun more f _ _ hR => ?_))
  obtain ⟨m, rfl⟩ := g.more
  exact OfR.from hR h1
theorem ofOpposite {n : Nat} (IH : ∀ k, k < n → FoIs k) (ms : List Int) (hm : ∀ y ∈ ms, isIn ns y ∧ 2 * y.toNat + 1 < n) : OfIs p w ns F many 114 (fun x => #[.pointer (some ⟨p.gw, 0, none⟩), .int .i64 x]) ms V0 0 (ndNv ns) := fun y' w1 ns1 F1 many1 y hy g => by
  obtain ⟨h1, h2⟩ := hm y hy
  refine (lOppAt (p := { p with y := y' }) (IH _ h2) y (Nat.le_refl _) g.lw (g.isIn h1)).mono (fun e w q => q.mono (fun more f _ _ hR => ?_))
  obtain ⟨m, rfl⟩ := g.more
  rw [ndNv_up h1] at hR
  exact hR
set_option maxRecDepth 100000 in
set_option maxHeartbeats 8000000 in
theorem lNotOf {n : Nat} (IH : ∀ k, k < n → FoIs k) (id x : Int) (h : LW p w ns F many) (hin : isIn ns id) (hk : kd ns id = 6) (hx : ka ns id = x) (hr : 2 * x.toNat + 1 ≤ n) :
    Calls Tryz.prog 96 #[.pointer (some ⟨p.gw, 0, none⟩), .int .i64 id, .int .i64 x] w (LAns p w ns F many fun ms f => OfR ns id ms f) := by
  have HI := Lib.hid hin
  have HX : Hid (isIn ns x) := Lib.hid (by rw [← hx]; exact (in_one h.fine hin (by omega)).1)
  have HKi : Hid (kd ns id = 6 ∧ ka ns id = x) := Lib.hid ⟨hk, hx⟩
  clear hin hk hx
  have HW := Lib.hid h
  have HIH := Lib.hid IH
  obtain ⟨gp, hgp⟩ := arenaMid.ptr h.ar
  have HN := Lib.hid (arenaMid.node x h.ar (isIn_I64 h.few HX.out))
  rw [show decide (0 ≤ x ∧ x < (ns.length : Int)) = true from decide_eq_true HX.out] at HN
  have c0 := h.cells.1
  rw [hgp] at c0 HN
  have HFi := Lib.hid h.fine
  have HFw := Lib.hid h.few
  clear h IH hgp
  go_enter Tryz.func96, Tryz.ntmps96
  go_wp2_with fail
  refine HN.out.mono ?_
  rintro e w3 ⟨u, rfl, hu, hb3, _⟩
  have hu := hu HX.out
  have HK : Hid (kd ns x = u.kind ∧ ka ns x = u.a ∧ kb ns x = u.b) := Lib.hid ⟨by unfold kd; rw [← hu], by unfold ka; rw [← hu], by unfold kb; rw [← hu]⟩
  have HU := Lib.hid hu
  have HXb := Lib.hid (boxN_at w3 u)
  have HG := Lib.hid (Grow.of HW.out (hb3.trans ((boxN_next w3 u).mono hb3.size)))
  have hone := Nd.one u
  have ck := (Nd.cells HXb.out).1
  have cA := (Nd.cells HXb.out).2.2.2.2.2.1
  clear hu hb3
  by_cases hk0 : u.kind = 0
  · have HKd := Lib.hid hk0
    rw [hk0] at ck
    clear hk0
    have HC := Lib.hid (lTrue (boxN w3 u))
    go_wp2_with (first
      | (with_reducible show wpList _ _ _ ({ dst := none, op := .store 61 _ _, type := _, pos := _, after := _, guard := _ } :: _) _ _
         refine wpList_store_row rfl 61 _ _ rfl w3.heap.size u.cs.toArray rfl rfl 61 Nd.zero.cs.toArray (At.new _ _ _) (by kernel_rfl) rfl hone ?_
         first | change wpList _ _ _ _ _ (boxN w3 u) | change Exit.then _ _ _ _ (boxN w3 u))
      | (with_reducible show wpList _ _ _ ({ dst := _, op := .load 61 _, type := _, pos := _, after := _, guard := _ } :: _) _ _
         refine wpList_load_row_want (by rfl) 61 _ rfl w3.heap.size rfl 61 u.cs.toArray (0, 0) _ HXb.out Tryz.underlying61 rfl (by rw [List.size_toArray, Nd.cs_length]; kernel_rfl) ?_)
      | fail)
    refine HC.out.mono ?_
    rintro e w5 ⟨A5, c5, rfl, hf5, hb5⟩
    have HK5 := Lib.hid (FmFrom.keeps HG.out.lw hf5)
    have HG5 := Lib.hid (HG.out.next hb5)
    clear hf5 hb5
    go_wp2_with fail
    go_ret
    exact LAns.done HG5.out HK5.out (FmIn.true _) (fun q => of_all HFi.out HI.out HKi.out.1 (by rw [HKi.out.2, HK.out.1]; exact HKd.out))
  have hb0 := (int_ne hk0).1
  clear hk0
  by_cases hk4 : u.kind = 4
  · have HKd := Lib.hid hk4
    rw [hk4] at ck
    clear hk4 hb0
    obtain ⟨⟨ia, la⟩, ib, lb⟩ := in_two HFi.out HX.out (by rw [HK.out.1]; have := HKd.out; omega)
    rw [HK.out.2.1] at ia la
    rw [HK.out.2.2] at ib lb
    have HM := Lib.hid (lMembers 4 (by omega) HG.out.lw u HKd.out ia ib)
    have HMm : Hid (∀ y, (y ∈ mem ns 4 u.a ∨ y ∈ mem ns 4 u.b) → isIn ns y ∧ y < x) := Lib.hid (fun y hy => by
      rcases hy with hy | hy
      · obtain ⟨q1, q2, _⟩ := mem_in HFi.out (by omega) _ u.a (Nat.le_refl _) ia y hy
        exact ⟨q1, by omega⟩
      · obtain ⟨q1, q2, _⟩ := mem_in HFi.out (by omega) _ u.b (Nat.le_refl _) ib y hy
        exact ⟨q1, by omega⟩)
    clear ia la ib lb
    go_wp2_with (first
      | (with_reducible show wpList _ _ _ ({ dst := none, op := .store 61 _ _, type := _, pos := _, after := _, guard := _ } :: _) _ _
         refine wpList_store_row rfl 61 _ _ rfl w3.heap.size u.cs.toArray rfl rfl 61 Nd.zero.cs.toArray (At.new _ _ _) (by kernel_rfl) rfl hone ?_
         first | change wpList _ _ _ _ _ (boxN w3 u) | change Exit.then _ _ _ _ (boxN w3 u))
      | (with_reducible show wpList _ _ _ ({ dst := _, op := .load 61 _, type := _, pos := _, after := _, guard := _ } :: _) _ _
         refine wpList_load_row_want (by rfl) 61 _ rfl w3.heap.size rfl 61 u.cs.toArray (0, 0) _ HXb.out Tryz.underlying61 rfl (by rw [List.size_toArray, Nd.cs_length]; kernel_rfl) ?_)
      | fail)
    refine HM.out.mono ?_
    rintro e w5 ⟨v5, ms, rfl, hr5, hnd, hmm, hb5⟩
    have hin5 : ∀ y ∈ ms, isIn ns y ∧ y < x := fun y hy => HMm.out y ((hmm y).1 hy)
    have hms : ∀ y, y ∈ ms ↔ y ∈ mem ns 4 x := fun y => by
      rw [hmm y, mem_node HFi.out (by omega) HX.out (by rw [HK.out.1]; exact HKd.out), HK.out.2.1, HK.out.2.2, List.mem_append]
    have hlen : ms.length ≤ 20000 := Nat.le_trans (nodup_in hnd (fun z hz => (hin5 z hz).1)) HFw.out
    have hG5 := HG.out.next hb5
    have hkl : KeepsL (XY p F) w5 v5 ms := IdRow.keepsL hr5 (fun b q => HG.out.lw.lowY b q) (fun y hy => isIn_IsI HFw.out (hin5 y hy).1) hlen
    have HC := Lib.hid (lAndOpposite hG5.lw hkl hlen (ofOpposite (F := F) (many := many) HIH.out ms (fun y hy => by obtain ⟨q1, q2⟩ := hin5 y hy; refine ⟨q1, ?_⟩; unfold isIn at q1; omega)))
    have HG5 := Lib.hid hG5
    have HMs := Lib.hid hms
    obtain ⟨A5, c5, hv5, _⟩ := hkl.here
    subst hv5
    clear hr5 hnd hmm hb5 hin5 hms hG5 hkl
    go_wp2_with fail
    refine HC.out.mono ?_
    rintro e w6 ⟨v6, f, ns6, F6, many6, rfl, hg6, hk6, hi6, hd6⟩
    obtain ⟨A6, c6, hv6⟩ := hk6.at
    subst hv6
    have HG6 := Lib.hid (HG5.out.trans hg6)
    have HK6 := Lib.hid hk6
    have HI6 := Lib.hid hi6
    have HD6 := Lib.hid hd6
    clear hg6 hk6 hi6 hd6
    go_wp2_with fail
    go_ret
    exact LAns.done HG6.out HK6.out HI6.out (fun q => Den.val (Den.val (HD6.out q) (fun a b c d _ => ndNv_mem4 HFi.out HX.out HMs.out a b c d)) (fun a b c d hv => by rw [ndTv_not HFi.out HI.out HKi.out.1 a b hv.2.1, HKi.out.2]))
  have hb4 := (int_ne hk4).1
  clear hk4
  by_cases hk5 : u.kind = 5
  · have HKd := Lib.hid hk5
    rw [hk5] at ck
    clear hk5 hb0 hb4
    obtain ⟨⟨ia, la⟩, ib, lb⟩ := in_two HFi.out HX.out (by rw [HK.out.1]; have := HKd.out; omega)
    rw [HK.out.2.1] at ia la
    rw [HK.out.2.2] at ib lb
    have HM := Lib.hid (lMembers 5 (by omega) HG.out.lw u HKd.out ia ib)
    have HMm : Hid (∀ y, (y ∈ mem ns 5 u.a ∨ y ∈ mem ns 5 u.b) → isIn ns y ∧ y < x) := Lib.hid (fun y hy => by
      rcases hy with hy | hy
      · obtain ⟨q1, q2, _⟩ := mem_in HFi.out (by omega) _ u.a (Nat.le_refl _) ia y hy
        exact ⟨q1, by omega⟩
      · obtain ⟨q1, q2, _⟩ := mem_in HFi.out (by omega) _ u.b (Nat.le_refl _) ib y hy
        exact ⟨q1, by omega⟩)
    clear ia la ib lb
    go_wp2_with (first
      | (with_reducible show wpList _ _ _ ({ dst := none, op := .store 61 _ _, type := _, pos := _, after := _, guard := _ } :: _) _ _
         refine wpList_store_row rfl 61 _ _ rfl w3.heap.size u.cs.toArray rfl rfl 61 Nd.zero.cs.toArray (At.new _ _ _) (by kernel_rfl) rfl hone ?_
         first | change wpList _ _ _ _ _ (boxN w3 u) | change Exit.then _ _ _ _ (boxN w3 u))
      | (with_reducible show wpList _ _ _ ({ dst := _, op := .load 61 _, type := _, pos := _, after := _, guard := _ } :: _) _ _
         refine wpList_load_row_want (by rfl) 61 _ rfl w3.heap.size rfl 61 u.cs.toArray (0, 0) _ HXb.out Tryz.underlying61 rfl (by rw [List.size_toArray, Nd.cs_length]; kernel_rfl) ?_)
      | fail)
    refine HM.out.mono ?_
    rintro e w5 ⟨v5, ms, rfl, hr5, hnd, hmm, hb5⟩
    have hin5 : ∀ y ∈ ms, isIn ns y ∧ y < x := fun y hy => HMm.out y ((hmm y).1 hy)
    have hms : ∀ y, y ∈ ms ↔ y ∈ mem ns 5 x := fun y => by
      rw [hmm y, mem_node HFi.out (by omega) HX.out (by rw [HK.out.1]; exact HKd.out), HK.out.2.1, HK.out.2.2, List.mem_append]
    have hlen : ms.length ≤ 20000 := Nat.le_trans (nodup_in hnd (fun z hz => (hin5 z hz).1)) HFw.out
    have hG5 := HG.out.next hb5
    have hkl : KeepsL (XY p F) w5 v5 ms := IdRow.keepsL hr5 (fun b q => HG.out.lw.lowY b q) (fun y hy => isIn_IsI HFw.out (hin5 y hy).1) hlen
    have HC := Lib.hid (lOrOpposite hG5.lw hkl (ofOpposite (F := F) (many := many) HIH.out ms (fun y hy => by obtain ⟨q1, q2⟩ := hin5 y hy; refine ⟨q1, ?_⟩; unfold isIn at q1; omega)))
    have HG5 := Lib.hid hG5
    have HMs := Lib.hid hms
    obtain ⟨A5, c5, hv5, _⟩ := hkl.here
    subst hv5
    clear hr5 hnd hmm hb5 hin5 hms hG5 hkl
    go_wp2_with fail
    refine HC.out.mono ?_
    rintro e w6 ⟨v6, f, ns6, F6, many6, rfl, hg6, hk6, hi6, hd6⟩
    obtain ⟨A6, c6, hv6⟩ := hk6.at
    subst hv6
    have HG6 := Lib.hid (HG5.out.trans hg6)
    have HK6 := Lib.hid hk6
    have HI6 := Lib.hid hi6
    have HD6 := Lib.hid hd6
    clear hg6 hk6 hi6 hd6
    go_wp2_with fail
    go_ret
    exact LAns.done HG6.out HK6.out HI6.out (fun q => Den.val (Den.val (HD6.out q) (fun a b c d _ => ndNv_mem5 HFi.out HX.out HMs.out a b c d)) (fun a b c d hv => by rw [ndTv_not HFi.out HI.out HKi.out.1 a b hv.2.1, HKi.out.2]))
  have hb5 := (int_ne hk5).1
  clear hk5
  have HC := Lib.hid (lAtom (boxN w3 u) id (by have := HI.out; unfold isIn at this; omega) (isIn_IsI HFw.out HI.out))
  clear cA
  go_wp2_with (first
      | (with_reducible show wpList _ _ _ ({ dst := none, op := .store 61 _ _, type := _, pos := _, after := _, guard := _ } :: _) _ _
         refine wpList_store_row rfl 61 _ _ rfl w3.heap.size u.cs.toArray rfl rfl 61 Nd.zero.cs.toArray (At.new _ _ _) (by kernel_rfl) rfl hone ?_
         first | change wpList _ _ _ _ _ (boxN w3 u) | change Exit.then _ _ _ _ (boxN w3 u))
      | (with_reducible show wpList _ _ _ ({ dst := _, op := .load 61 _, type := _, pos := _, after := _, guard := _ } :: _) _ _
         refine wpList_load_row_want (by rfl) 61 _ rfl w3.heap.size rfl 61 u.cs.toArray (0, 0) _ HXb.out Tryz.underlying61 rfl (by rw [List.size_toArray, Nd.cs_length]; kernel_rfl) ?_)
      | fail)
  refine HC.out.mono ?_
  rintro e w5 ⟨A5, c5, rfl, hf5, hb5⟩
  have HK5 := Lib.hid (FmFrom.keeps HG.out.lw hf5)
  have HG5 := Lib.hid (HG.out.next hb5)
  clear hf5 hb5
  go_wp2_with fail
  go_ret
  exact LAns.done HG5.out HK5.out (FmIn.atom (by have := HI.out; unfold isIn at this; omega) (ls_mem.2 HI.out)) (fun q => of_self)
set_option maxRecDepth 100000 in
set_option maxHeartbeats 8000000 in
theorem lOf {n : Nat} (IH : ∀ k, k < n → FoIs k) (id : Int) (h : LW p w ns F many) (hin : isIn ns id) (hr : rk ns id = n) :
    Calls Tryz.prog 62 #[.pointer (some ⟨p.gw, 0, none⟩), .int .i64 id] w (LAns p w ns F many fun ms f => OfR ns id ms f) := by
  have HX := Lib.hid hin
  have HI := Lib.hid hin
  clear hin
  have HW := Lib.hid h
  have HIH := Lib.hid IH
  obtain ⟨gp, hgp⟩ := arenaMid.ptr h.ar
  have HN := Lib.hid (arenaMid.node id h.ar (isIn_I64 h.few HX.out))
  rw [show decide (0 ≤ id ∧ id < (ns.length : Int)) = true from decide_eq_true HX.out] at HN
  have c0 := h.cells.1
  rw [hgp] at c0 HN
  have HFi := Lib.hid h.fine
  have HFw := Lib.hid h.few
  clear h IH hgp
  go_enter Tryz.func62, Tryz.ntmps62
  go_wp2_with fail
  refine HN.out.mono ?_
  rintro e w3 ⟨u, rfl, hu, hb3, _⟩
  have hu := hu HX.out
  have HK : Hid (kd ns id = u.kind ∧ ka ns id = u.a ∧ kb ns id = u.b) := Lib.hid ⟨by unfold kd; rw [← hu], by unfold ka; rw [← hu], by unfold kb; rw [← hu]⟩
  have HU := Lib.hid hu
  have HXb := Lib.hid (boxN_at w3 u)
  have HG := Lib.hid (Grow.of HW.out (hb3.trans ((boxN_next w3 u).mono hb3.size)))
  have hone := Nd.one u
  have ck := (Nd.cells HXb.out).1
  have cA := (Nd.cells HXb.out).2.2.2.2.2.1
  clear hu hb3
  have HRk : Hid (u.kind ≠ 6 → 2 * id.toNat = n) := Lib.hid (fun q => by unfold rk at hr; rw [HK.out.1, if_neg q] at hr; exact hr)
  have HR6 : Hid (u.kind = 6 → 2 * u.a.toNat + 1 = n) := Lib.hid (fun q => by unfold rk at hr; rw [HK.out.1, if_pos q, HK.out.2.1] at hr; exact hr)
  clear hr
  by_cases hk0 : u.kind = 0
  · have HKd := Lib.hid hk0
    rw [hk0] at ck
    clear hk0
    have HC := Lib.hid (lFalse (boxN w3 u))
    go_wp2_with (first
      | (with_reducible show wpList _ _ _ ({ dst := none, op := .store 61 _ _, type := _, pos := _, after := _, guard := _ } :: _) _ _
         refine wpList_store_row rfl 61 _ _ rfl w3.heap.size u.cs.toArray rfl rfl 61 Nd.zero.cs.toArray (At.new _ _ _) (by kernel_rfl) rfl hone ?_
         first | change wpList _ _ _ _ _ (boxN w3 u) | change Exit.then _ _ _ _ (boxN w3 u))
      | (with_reducible show wpList _ _ _ ({ dst := _, op := .load 61 _, type := _, pos := _, after := _, guard := _ } :: _) _ _
         refine wpList_load_row_want (by rfl) 61 _ rfl w3.heap.size rfl 61 u.cs.toArray (0, 0) _ HXb.out Tryz.underlying61 rfl (by rw [List.size_toArray, Nd.cs_length]; kernel_rfl) ?_)
      | fail)
    refine HC.out.mono ?_
    rintro e w5 ⟨A5, c5, rfl, hf5, hb5⟩
    have HK5 := Lib.hid (FmFrom.keeps HG.out.lw hf5)
    have HG5 := Lib.hid (HG.out.next hb5)
    clear hf5 hb5
    go_wp2_with fail
    go_ret
    exact LAns.done HG5.out HK5.out (FmIn.nil _) (fun q => of_no HFi.out HI.out (by rw [HK.out.1]; exact HKd.out))
  have hb0 := (int_ne hk0).1
  clear hk0
  by_cases hk4 : u.kind = 4
  · have HKd := Lib.hid hk4
    rw [hk4] at ck
    clear hk4 hb0
    obtain ⟨⟨ia, la⟩, ib, lb⟩ := in_two HFi.out HX.out (by rw [HK.out.1]; have := HKd.out; omega)
    rw [HK.out.2.1] at ia la
    rw [HK.out.2.2] at ib lb
    have HM := Lib.hid (lMembers 4 (by omega) HG.out.lw u HKd.out ia ib)
    have HMm : Hid (∀ y, (y ∈ mem ns 4 u.a ∨ y ∈ mem ns 4 u.b) → isIn ns y ∧ y < id) := Lib.hid (fun y hy => by
      rcases hy with hy | hy
      · obtain ⟨q1, q2, _⟩ := mem_in HFi.out (by omega) _ u.a (Nat.le_refl _) ia y hy
        exact ⟨q1, by omega⟩
      · obtain ⟨q1, q2, _⟩ := mem_in HFi.out (by omega) _ u.b (Nat.le_refl _) ib y hy
        exact ⟨q1, by omega⟩)
    clear ia la ib lb
    go_wp2_with (first
      | (with_reducible show wpList _ _ _ ({ dst := none, op := .store 61 _ _, type := _, pos := _, after := _, guard := _ } :: _) _ _
         refine wpList_store_row rfl 61 _ _ rfl w3.heap.size u.cs.toArray rfl rfl 61 Nd.zero.cs.toArray (At.new _ _ _) (by kernel_rfl) rfl hone ?_
         first | change wpList _ _ _ _ _ (boxN w3 u) | change Exit.then _ _ _ _ (boxN w3 u))
      | (with_reducible show wpList _ _ _ ({ dst := _, op := .load 61 _, type := _, pos := _, after := _, guard := _ } :: _) _ _
         refine wpList_load_row_want (by rfl) 61 _ rfl w3.heap.size rfl 61 u.cs.toArray (0, 0) _ HXb.out Tryz.underlying61 rfl (by rw [List.size_toArray, Nd.cs_length]; kernel_rfl) ?_)
      | fail)
    refine HM.out.mono ?_
    rintro e w5 ⟨v5, ms, rfl, hr5, hnd, hmm, hb5⟩
    have hin5 : ∀ y ∈ ms, isIn ns y ∧ y < id := fun y hy => HMm.out y ((hmm y).1 hy)
    have hms : ∀ y, y ∈ ms ↔ y ∈ mem ns 4 id := fun y => by
      rw [hmm y, mem_node HFi.out (by omega) HX.out (by rw [HK.out.1]; exact HKd.out), HK.out.2.1, HK.out.2.2, List.mem_append]
    have hlen : ms.length ≤ 20000 := Nat.le_trans (nodup_in hnd (fun z hz => (hin5 z hz).1)) HFw.out
    have hG5 := HG.out.next hb5
    have hkl : KeepsL (XY p F) w5 v5 ms := IdRow.keepsL hr5 (fun b q => HG.out.lw.lowY b q) (fun y hy => isIn_IsI HFw.out (hin5 y hy).1) hlen
    have HC := Lib.hid (lOrFormula hG5.lw hkl (ofFormula (F := F) (many := many) HIH.out ms (fun y hy => by obtain ⟨q1, q2⟩ := hin5 y hy; refine ⟨q1, ?_⟩; have := HRk.out (by have := HKd.out; omega); unfold isIn at q1; omega) HFw.out))
    have HG5 := Lib.hid hG5
    have HMs := Lib.hid hms
    obtain ⟨A5, c5, hv5, _⟩ := hkl.here
    subst hv5
    clear hr5 hnd hmm hb5 hin5 hms hG5 hkl
    go_wp2_with fail
    refine HC.out.mono ?_
    rintro e w6 ⟨v6, f, ns6, F6, many6, rfl, hg6, hk6, hi6, hd6⟩
    obtain ⟨A6, c6, hv6⟩ := hk6.at
    subst hv6
    have HG6 := Lib.hid (HG5.out.trans hg6)
    have HK6 := Lib.hid hk6
    have HI6 := Lib.hid hi6
    have HD6 := Lib.hid hd6
    clear hg6 hk6 hi6 hd6
    go_wp2_with fail
    go_ret
    exact LAns.done HG6.out HK6.out HI6.out (fun q => den_mem4 HFi.out HI.out HMs.out (HD6.out q))
  have hb4 := (int_ne hk4).1
  clear hk4
  by_cases hk5 : u.kind = 5
  · have HKd := Lib.hid hk5
    rw [hk5] at ck
    clear hk5 hb0 hb4
    obtain ⟨⟨ia, la⟩, ib, lb⟩ := in_two HFi.out HX.out (by rw [HK.out.1]; have := HKd.out; omega)
    rw [HK.out.2.1] at ia la
    rw [HK.out.2.2] at ib lb
    have HM := Lib.hid (lMembers 5 (by omega) HG.out.lw u HKd.out ia ib)
    have HMm : Hid (∀ y, (y ∈ mem ns 5 u.a ∨ y ∈ mem ns 5 u.b) → isIn ns y ∧ y < id) := Lib.hid (fun y hy => by
      rcases hy with hy | hy
      · obtain ⟨q1, q2, _⟩ := mem_in HFi.out (by omega) _ u.a (Nat.le_refl _) ia y hy
        exact ⟨q1, by omega⟩
      · obtain ⟨q1, q2, _⟩ := mem_in HFi.out (by omega) _ u.b (Nat.le_refl _) ib y hy
        exact ⟨q1, by omega⟩)
    clear ia la ib lb
    go_wp2_with (first
      | (with_reducible show wpList _ _ _ ({ dst := none, op := .store 61 _ _, type := _, pos := _, after := _, guard := _ } :: _) _ _
         refine wpList_store_row rfl 61 _ _ rfl w3.heap.size u.cs.toArray rfl rfl 61 Nd.zero.cs.toArray (At.new _ _ _) (by kernel_rfl) rfl hone ?_
         first | change wpList _ _ _ _ _ (boxN w3 u) | change Exit.then _ _ _ _ (boxN w3 u))
      | (with_reducible show wpList _ _ _ ({ dst := _, op := .load 61 _, type := _, pos := _, after := _, guard := _ } :: _) _ _
         refine wpList_load_row_want (by rfl) 61 _ rfl w3.heap.size rfl 61 u.cs.toArray (0, 0) _ HXb.out Tryz.underlying61 rfl (by rw [List.size_toArray, Nd.cs_length]; kernel_rfl) ?_)
      | fail)
    refine HM.out.mono ?_
    rintro e w5 ⟨v5, ms, rfl, hr5, hnd, hmm, hb5⟩
    have hin5 : ∀ y ∈ ms, isIn ns y ∧ y < id := fun y hy => HMm.out y ((hmm y).1 hy)
    have hms : ∀ y, y ∈ ms ↔ y ∈ mem ns 5 id := fun y => by
      rw [hmm y, mem_node HFi.out (by omega) HX.out (by rw [HK.out.1]; exact HKd.out), HK.out.2.1, HK.out.2.2, List.mem_append]
    have hlen : ms.length ≤ 20000 := Nat.le_trans (nodup_in hnd (fun z hz => (hin5 z hz).1)) HFw.out
    have hG5 := HG.out.next hb5
    have hkl : KeepsL (XY p F) w5 v5 ms := IdRow.keepsL hr5 (fun b q => HG.out.lw.lowY b q) (fun y hy => isIn_IsI HFw.out (hin5 y hy).1) hlen
    have HC := Lib.hid (lAndFormula hG5.lw hkl hlen (ofFormula (F := F) (many := many) HIH.out ms (fun y hy => by obtain ⟨q1, q2⟩ := hin5 y hy; refine ⟨q1, ?_⟩; have := HRk.out (by have := HKd.out; omega); unfold isIn at q1; omega) HFw.out))
    have HG5 := Lib.hid hG5
    have HMs := Lib.hid hms
    obtain ⟨A5, c5, hv5, _⟩ := hkl.here
    subst hv5
    clear hr5 hnd hmm hb5 hin5 hms hG5 hkl
    go_wp2_with fail
    refine HC.out.mono ?_
    rintro e w6 ⟨v6, f, ns6, F6, many6, rfl, hg6, hk6, hi6, hd6⟩
    obtain ⟨A6, c6, hv6⟩ := hk6.at
    subst hv6
    have HG6 := Lib.hid (HG5.out.trans hg6)
    have HK6 := Lib.hid hk6
    have HI6 := Lib.hid hi6
    have HD6 := Lib.hid hd6
    clear hg6 hk6 hi6 hd6
    go_wp2_with fail
    go_ret
    exact LAns.done HG6.out HK6.out HI6.out (fun q => den_mem5 HFi.out HI.out HMs.out (HD6.out q))
  have hb5 := (int_ne hk5).1
  clear hk5
  by_cases hk6 : u.kind = 6
  · have HKd := Lib.hid hk6
    rw [hk6] at ck
    clear hk6 hb0 hb4 hb5
    have HC := Lib.hid (lNotOf HIH.out id u.a HG.out.lw HI.out (by rw [HK.out.1]; exact HKd.out) HK.out.2.1 (by have := HR6.out HKd.out; omega))
    go_wp2_with (first
      | (with_reducible show wpList _ _ _ ({ dst := none, op := .store 61 _ _, type := _, pos := _, after := _, guard := _ } :: _) _ _
         refine wpList_store_row rfl 61 _ _ rfl w3.heap.size u.cs.toArray rfl rfl 61 Nd.zero.cs.toArray (At.new _ _ _) (by kernel_rfl) rfl hone ?_
         first | change wpList _ _ _ _ _ (boxN w3 u) | change Exit.then _ _ _ _ (boxN w3 u))
      | (with_reducible show wpList _ _ _ ({ dst := _, op := .load 61 _, type := _, pos := _, after := _, guard := _ } :: _) _ _
         refine wpList_load_row_want (by rfl) 61 _ rfl w3.heap.size rfl 61 u.cs.toArray (0, 0) _ HXb.out Tryz.underlying61 rfl (by rw [List.size_toArray, Nd.cs_length]; kernel_rfl) ?_)
      | fail)
    refine HC.out.mono ?_
    rintro e w6 ⟨v6, f, ns6, F6, many6, rfl, hg6, hk6, hi6, hd6⟩
    obtain ⟨A6, c6, hv6⟩ := hk6.at
    subst hv6
    have HG6 := Lib.hid (HG.out.trans hg6)
    have HK6 := Lib.hid hk6
    have HI6 := Lib.hid hi6
    have HD6 := Lib.hid hd6
    clear hg6 hk6 hi6 hd6
    go_wp2_with fail
    go_ret
    exact LAns.done HG6.out HK6.out HI6.out HD6.out
  have hb6 := (int_ne hk6).1
  clear hk6
  have HC := Lib.hid (lAtom (boxN w3 u) id (by have := HI.out; unfold isIn at this; omega) (isIn_IsI HFw.out HI.out))
  clear cA
  go_wp2_with (first
      | (with_reducible show wpList _ _ _ ({ dst := none, op := .store 61 _ _, type := _, pos := _, after := _, guard := _ } :: _) _ _
         refine wpList_store_row rfl 61 _ _ rfl w3.heap.size u.cs.toArray rfl rfl 61 Nd.zero.cs.toArray (At.new _ _ _) (by kernel_rfl) rfl hone ?_
         first | change wpList _ _ _ _ _ (boxN w3 u) | change Exit.then _ _ _ _ (boxN w3 u))
      | (with_reducible show wpList _ _ _ ({ dst := _, op := .load 61 _, type := _, pos := _, after := _, guard := _ } :: _) _ _
         refine wpList_load_row_want (by rfl) 61 _ rfl w3.heap.size rfl 61 u.cs.toArray (0, 0) _ HXb.out Tryz.underlying61 rfl (by rw [List.size_toArray, Nd.cs_length]; kernel_rfl) ?_)
      | fail)
  refine HC.out.mono ?_
  rintro e w5 ⟨A5, c5, rfl, hf5, hb5⟩
  have HK5 := Lib.hid (FmFrom.keeps HG.out.lw hf5)
  have HG5 := Lib.hid (HG.out.next hb5)
  clear hf5 hb5
  go_wp2_with fail
  go_ret
  exact LAns.done HG5.out HK5.out (FmIn.atom (by have := HI.out; unfold isIn at this; omega) (ls_mem.2 HI.out)) (fun q => of_self)
end
theorem foIs : ∀ n : Nat, FoIs n := fun n => Nat.strongRecOn n (fun n IH => fun p w ns F many id hid hin hw => by
  refine lFormulaAt id hid hw (hin.imp (fun q => q.1) (fun q => q)) (fun hm => ?_)
  obtain ⟨hi, hr⟩ := hin.resolve_right (fun q => by rw [hm] at q; cases q.1)
  exact lOf (n := rk ns id) (fun k hk => IH k (Nat.lt_of_lt_of_le hk hr)) id hw hi rfl)
section
variable {p : LP} {w : World} {ns : List Nd} {F : Nat → Prop} {many : Bool}
theorem lFormula (id : Int) (hid : I64 id) (hin : isIn ns id ∨ (many = true ∧ ¬ isIn ns id)) (h : LW p w ns F many) : Calls Tryz.prog 27 #[.pointer (some ⟨p.gw, 0, none⟩), .int .i64 id] w (LAns p w ns F many fun ms f => OfR ns id ms f) :=
  foIs (rk ns id) p id hid (hin.imp (fun q => ⟨q, Nat.le_refl _⟩) (fun q => q)) h
theorem lOpposite (id : Int) (h : LW p w ns F many) (hin : isIn ns id) : Calls Tryz.prog 114 #[.pointer (some ⟨p.gw, 0, none⟩), .int .i64 id] w (LAns p w ns F many fun ms f => Den V0 0 (ndNv ns id) ms f) := lOppAt (foIs _) id (Nat.le_refl _) h hin
end

end Go.Proofs.YthifbaacmohmnaaGreat

/- How what is put together is made, member by member: mathematics; no program is named. -/
namespace Go.Proofs.YthifbaacmohmnaaGreat
open Go.RowKit
set_option linter.unusedSimpArgs false
set_option linter.unusedVariables false
set_option linter.unusedSectionVars false

section
variable {ns : List Nd} (hc : Canon ns) {k : Int} (hk : k = 4 ∨ k = 5)
theorem view_hit {x : Int} (ht : topB ns k x = false) (a : Atom) : view ns k x a = true ↔ ∃ y ∈ mem ns k x, hit ns k y a = true := by
  unfold view
  rw [ht, Bool.false_or, List.any_eq_true]
include hc hk
/-- By members: r has those of the others, its Bytes what theirs have together. -/
theorem join_of_list {ls : List Int} {r : Int} (hls : ∀ x ∈ ls, isIn ns x) (hr : isIn ns r) (tr : topB ns k r = false) (htop : ∀ x ∈ ls, topB ns k x = false)
    (hoth : ∀ y, kd ns y ≠ 2 → unitB ns k y = false → (y ∈ mem ns k r ↔ ∃ x ∈ ls, y ∈ mem ns k x))
    (hsome : (∃ y ∈ mem ns k r, kd ns y = 2) ↔ ∃ x ∈ ls, ∃ y ∈ mem ns k x, kd ns y = 2)
    (hbyte : ∀ b, b < 256 → ((∃ y ∈ mem ns k r, kd ns y = 2 ∧ ((ndAt ns y.toNat).set.has b != decide (k = 5)) = true) ↔ ∃ x ∈ ls, ∃ z ∈ mem ns k x, kd ns z = 2 ∧ ((ndAt ns z.toNat).set.has b != decide (k = 5)) = true)) : JoinR ns k ls r := by
  have hv : ∀ a, view ns k r a = ls.any (fun x => view ns k x a) := fun a => bool_iff (by
    rw [view_hit tr, List.any_eq_true]
    have hany : (∃ x ∈ ls, view ns k x a = true) ↔ ∃ x ∈ ls, ∃ y ∈ mem ns k x, hit ns k y a = true :=
      ⟨fun ⟨x, hx, h⟩ => ⟨x, hx, (view_hit (htop x hx) a).1 h⟩, fun ⟨x, hx, h⟩ => ⟨x, hx, (view_hit (htop x hx) a).2 h⟩⟩
    rw [hany]
    cases a with
    | top =>
      constructor
      · rintro ⟨y, _, h⟩; cases h
      · rintro ⟨x, _, y, _, h⟩; cases h
    | oth z =>
      have e : ∀ y, hit ns k y (.oth z) = true ↔ y = z ∧ kd ns z ≠ 2 ∧ unitB ns k z = false := fun y => by
        show (decide (y = z) && (!decide (kd ns y = 2) && !unitB ns k y)) = true ↔ _
        rw [Bool.and_eq_true, Bool.and_eq_true, decide_eq_true_eq]
        constructor
        · rintro ⟨rfl, h1, h2⟩
          exact ⟨rfl, by simpa using h1, by simpa using h2⟩
        · rintro ⟨rfl, h1, h2⟩
          exact ⟨rfl, by simpa using h1, by simpa using h2⟩
      constructor
      · rintro ⟨y, hy, h⟩
        obtain ⟨rfl, h1, h2⟩ := (e y).1 h
        obtain ⟨x, hx, hm⟩ := (hoth y h1 h2).1 hy
        exact ⟨x, hx, y, hm, h⟩
      · rintro ⟨x, hx, y, hy, h⟩
        obtain ⟨rfl, h1, h2⟩ := (e y).1 h
        exact ⟨y, (hoth y h1 h2).2 ⟨x, hx, hy⟩, h⟩
    | some =>
      have e : ∀ y, hit ns k y .some = true ↔ kd ns y = 2 := fun y => decide_eq_true_iff
      constructor
      · rintro ⟨y, hy, h⟩
        obtain ⟨x, hx, z, hz, h2⟩ := hsome.1 ⟨y, hy, (e y).1 h⟩
        exact ⟨x, hx, z, hz, (e z).2 h2⟩
      · rintro ⟨x, hx, z, hz, h⟩
        obtain ⟨y, hy, h2⟩ := hsome.2 ⟨x, hx, z, hz, (e z).1 h⟩
        exact ⟨y, hy, (e y).2 h2⟩
    | byte b =>
      have e : ∀ y, hit ns k y (.byte b) = true ↔ b < 256 ∧ kd ns y = 2 ∧ ((ndAt ns y.toNat).set.has b != decide (k = 5)) = true := fun y => by
        show (decide (b < 256) && (decide (kd ns y = 2) && _)) = true ↔ _
        rw [Bool.and_eq_true, Bool.and_eq_true, decide_eq_true_eq, decide_eq_true_eq]
      constructor
      · rintro ⟨y, hy, h⟩
        obtain ⟨hb, h1, h2⟩ := (e y).1 h
        obtain ⟨x, hx, z, hz, h3⟩ := (hbyte b hb).1 ⟨y, hy, h1, h2⟩
        exact ⟨x, hx, z, hz, (e z).2 ⟨hb, h3⟩⟩
      · rintro ⟨x, hx, z, hz, h⟩
        obtain ⟨hb, h1, h2⟩ := (e z).1 h
        obtain ⟨y, hy, h3⟩ := (hbyte b hb).2 ⟨x, hx, z, hz, h1, h2⟩
        exact ⟨y, hy, (e y).2 ⟨hb, h3⟩⟩)
  refine ⟨hr, fun a => ?_⟩
  rw [clos_no, hv]
  intro hs
  have : Shuts k (view ns k r) := by
    rcases hs with hs | ⟨h5, hs⟩
    · exact Or.inl (by rw [hv]; exact hs)
    · exact Or.inr ⟨h5, fun b hb => by rw [hv]; exact hs b hb⟩
  rw [view_shut hc hk hr this] at tr
  cases tr
/-- One that takes all. -/
theorem join_of_top {ls : List Int} {t : Int} (ht : isIn ns t) (hb : topB ns k t = true) (hx : ∃ x ∈ ls, topB ns k x = true) : JoinR ns k ls t :=
  ⟨ht, fun a => by
    have hv : view ns k t a = true := by unfold view; rw [hb, Bool.true_or]
    rw [hv, clos_yes (Or.inl ?_)]
    obtain ⟨x, hx, h⟩ := hx
    exact List.any_eq_true.2 ⟨x, hx, by rw [view_top]; exact h⟩⟩
end
/-- r is the node of those members. -/
structure IsList (ns : List Nd) (k : Int) (fl : List Int) (r : Int) : Prop where
  ne : fl ≠ []
  inn : isIn ns r
  mems : mem ns k r = fl
  top : topB ns k r = false
  unit : unitB ns k r = false
theorem IsList.up {ns : List Nd} {k : Int} {fl : List Int} {r : Int} (h : IsList ns k fl r) (hk : k = 4 ∨ k = 5) (hf : FineN ns) (more : List Nd) : IsList (ns ++ more) k fl r :=
  ⟨h.ne, h.inn.up more, by rw [mem_up hf hk more _ r (Nat.le_refl _) h.inn]; exact h.mems, by rw [topB_up hf more h.inn]; exact h.top, by rw [unitB_up hf more h.inn]; exact h.unit⟩
theorem IsList.one {ns : List Nd} {k x : Int} (hx : isIn ns x) (hk : kd ns x ≠ k) (ht : topB ns k x = false) (hu : unitB ns k x = false) : IsList ns k [x] x := ⟨by simp, hx, mem_leaf hk, ht, hu⟩
/-- One more ahead: what is put, and what it is then. -/
theorem IsList.cons {ns : List Nd} (hc : Canon ns) {k : Int} (hk : k = 4 ∨ k = 5) {fl : List Int} {a r : Int} (h : IsList ns k fl r) (ha : isIn ns a) (hka : kd ns a ≠ k) (hta : topB ns k a = false) (hua : unitB ns k a = false) (hlt : ∀ y ∈ fl, a < y) (hby : kd ns a = 2 → ∀ y ∈ fl, kd ns y ≠ 2) (hmax : ns.length ≤ 20000) :
    (Nd.mk k noSt a r false).right ns.length = true ∧ NdFit (Nd.mk k noSt a r false) ∧ Fits ns (Nd.mk k noSt a r false) ∧ IsList (putS ns (Nd.mk k noSt a r false)) k (a :: fl) (putId ns (Nd.mk k noSt a r false)) := by
  have hi := h.inn
  unfold isIn at ha hi
  have hr : (Nd.mk k noSt a r false).right ns.length = true := by
    unfold Nd.right aIn
    rw [if_neg (by dsimp only; omega), if_neg (by dsimp only; omega), if_pos (by dsimp only; omega), Nd.eqb_self]
    dsimp only
    rw [decide_eq_true ha.1, decide_eq_true ha.2, decide_eq_true hi.1, decide_eq_true hi.2]; rfl
  have hx : NdFit (Nd.mk k noSt a r false) := ⟨by unfold I64; dsimp only; omega, ⟨by unfold U64; exact Nat.zero_lt_succ _, by unfold U64; exact Nat.zero_lt_succ _, by unfold U64; exact Nat.zero_lt_succ _, by unfold U64; exact Nat.zero_lt_succ _⟩, by unfold I64; dsimp only; omega, by unfold I64; dsimp only; omega⟩
  obtain ⟨e1, e2, e3⟩ := els hc hk h.inn h.top h.unit
  rw [h.mems] at e1 e2 e3
  have hl : Fits ns (Nd.mk k noSt a r false) := by
    refine ⟨fun q => by dsimp only at q; omega, fun k' hk' q => ?_, fun q => by dsimp only at q; omega, fun q => by dsimp only at q; omega, fun q => by dsimp only at q; omega⟩
    have q : k = k' := q
    subst q
    show kd ns a ≠ k ∧ (a :: mem ns k r).Pairwise (· < ·) ∧ _ ∧ _
    rw [h.mems]
    refine ⟨hka, List.pairwise_cons.2 ⟨hlt, e1⟩, fun y hy => ?_, fun y hy z hz h1 h2 => ?_⟩
    · rcases List.mem_cons.1 hy with q1 | q1
      · have q1 : y = a := q1
        rw [q1]; exact ⟨hta, hua⟩
      · exact (e2 y q1).2.2
    · rcases List.mem_cons.1 hy with q1 | q1
      · have q1 : y = a := q1
        rcases List.mem_cons.1 hz with q2 | q2
        · have q2 : z = a := q2
          rw [q1, q2]
        · exact absurd h2 (hby (by rw [← q1]; exact h1) z q2)
      · rcases List.mem_cons.1 hz with q2 | q2
        · have q2 : z = a := q2
          exact absurd h1 (hby (by rw [← q2]; exact h2) y q1)
        · exact e3 y q1 z q2 h1 h2
  obtain ⟨c1, c2, c3, ⟨more, c4, _⟩, _⟩ := canon_put hc hr hx hl
  refine ⟨hr, hx, hl, by simp, c2, ?_, ?_, ?_⟩
  · have hk2 : kd (putS ns (Nd.mk k noSt a r false)) (putId ns (Nd.mk k noSt a r false)) = k := by unfold kd; rw [c3]
    have ha2 : ka (putS ns (Nd.mk k noSt a r false)) (putId ns (Nd.mk k noSt a r false)) = a := by unfold ka; rw [c3]
    have hb2 : kb (putS ns (Nd.mk k noSt a r false)) (putId ns (Nd.mk k noSt a r false)) = r := by unfold kb; rw [c3]
    rw [mem_node c1.fine hk c2 hk2, ha2, hb2, c4, mem_up hc.fine hk more _ a (Nat.le_refl _) ha, mem_up hc.fine hk more _ r (Nat.le_refl _) h.inn, mem_leaf hka, h.mems]; rfl
  · cases q : topB (putS ns (Nd.mk k noSt a r false)) k (putId ns (Nd.mk k noSt a r false)) with
    | false => rfl
    | true =>
      have := topB_kind q
      unfold kd at this
      rw [c3] at this
      dsimp only at this
      omega
  · cases q : unitB (putS ns (Nd.mk k noSt a r false)) k (putId ns (Nd.mk k noSt a r false)) with
    | false => rfl
    | true =>
      have := unitB_kind q
      unfold kd at this
      rw [c3] at this
      dsimp only at this
      omega

end Go.Proofs.YthifbaacmohmnaaGreat

/- A list of members, put together from the last one on: mathematics; no program is named. -/
namespace Go.Proofs.YthifbaacmohmnaaGreat
open Go.RowKit
set_option linter.unusedSimpArgs false
set_option linter.unusedVariables false
set_option linter.unusedSectionVars false

/-- Members as they may be put together. -/
structure GoodL (ns : List Nd) (k : Int) (sl : List Int) : Prop where
  lt : sl.Pairwise (· < ·)
  mem : ∀ y ∈ sl, isIn ns y ∧ kd ns y ≠ k ∧ topB ns k y = false ∧ unitB ns k y = false
  one : ∀ y ∈ sl, ∀ z ∈ sl, kd ns y = 2 → kd ns z = 2 → y = z
structure StepR (ns : List Nd) (k : Int) (sl : List Int) (j : Nat) (ns' : List Nd) (r : Int) : Prop where
  canon : Canon ns'
  list : IsList ns' k (sl.drop j) r
  more : ∃ more, ns' = ns ++ more ∧ more.length + j + 1 ≤ sl.length ∧ ((∃ r0, IsList ns k sl r0) → more = [])
section
variable {ns : List Nd} (hc : Canon ns) {k : Int} (hk : k = 4 ∨ k = 5)
include hc hk
theorem IsList.uniq {fl : List Int} {r r' : Int} (h : IsList ns k fl r) (h' : IsList ns k fl r') : r = r' := mem_inj hc hk _ r r' (Nat.le_refl _) h.inn h'.inn (by rw [h.mems, h'.mems])
theorem IsList.tail {a : Int} {fl : List Int} {r : Int} (h : IsList ns k (a :: fl) r) (hne : fl ≠ []) : ∃ r', IsList ns k fl r' := by
  by_cases e : kd ns r = k
  · obtain ⟨j1, j2, j3, j4⟩ := hc.join k hk r h.inn e
    obtain ⟨⟨a0, _⟩, b0, _⟩ := in_two hc.fine h.inn (by omega)
    have hm := mem_node hc.fine hk h.inn e
    rw [mem_leaf j1, h.mems] at hm
    have hm : a :: fl = ka ns r :: mem ns k (kb ns r) := hm
    injection hm with h1 h2
    refine ⟨kb ns r, hne, b0, h2.symm, ?_, ?_⟩
    · cases q : topB ns k (kb ns r) with
      | false => rfl
      | true =>
        have hk2 := topB_kind q
        have hin : kb ns r ∈ mem ns k r := by rw [h.mems, h2, mem_leaf (show kd ns (kb ns r) ≠ k by omega)]; simp
        rw [(j3 _ hin).1] at q; cases q
    · cases q : unitB ns k (kb ns r) with
      | false => rfl
      | true =>
        have hk2 := unitB_kind q
        have hin : kb ns r ∈ mem ns k r := by rw [h.mems, h2, mem_leaf (show kd ns (kb ns r) ≠ k by omega)]; simp
        rw [(j3 _ hin).2] at q; cases q
  · have := h.mems
    rw [mem_leaf e] at this
    injection this with _ h2
    exact absurd h2.symm hne
theorem IsList.drop {sl : List Int} {r : Int} (h : IsList ns k sl r) : ∀ j, j < sl.length → ∃ r', IsList ns k (sl.drop j) r'
  | 0, _ => ⟨r, by rw [List.drop_zero]; exact h⟩
  | j + 1, hj => by
    obtain ⟨r', h'⟩ := IsList.drop h j (by omega)
    rw [List.drop_eq_getElem_cons (by omega)] at h'
    exact IsList.tail hc hk h' (fun e => by
      have := congrArg List.length e
      simp at this
      omega)
theorem StepR.start {sl : List Int} (hg : GoodL ns k sl) (h0 : sl ≠ []) (p : Nat) (hp : sl.length = p + 1) : StepR ns k sl p ns (sl[p]'(by omega)) := by
  have hd : sl.drop p = [sl[p]'(by omega)] := by
    rw [List.drop_eq_getElem_cons (by omega), List.drop_eq_nil_of_le (by omega)]
  obtain ⟨m1, m2, m3, m4⟩ := hg.mem (sl[p]'(by omega)) (List.getElem_mem _)
  refine ⟨hc, by rw [hd]; exact IsList.one m1 m2 m3 m4, [], by rw [List.append_nil], by simp; omega, fun _ => rfl⟩
omit hc in
theorem StepR.next {sl : List Int} (hf : FineN ns) (hg : GoodL ns k sl) {j : Nat} {ns' : List Nd} {r : Int} (h : StepR ns k sl (j + 1) ns' r) (hj : j + 1 < sl.length) (hmax : ns'.length ≤ 20000) (hc0 : Canon ns) :
    (Nd.mk k noSt (sl[j]'(by omega)) r false).right ns'.length = true ∧ StepR ns k sl j (putS ns' (Nd.mk k noSt (sl[j]'(by omega)) r false)) (putId ns' (Nd.mk k noSt (sl[j]'(by omega)) r false)) := by
  obtain ⟨hc, hl, more, rfl, hlen, hold⟩ := h
  obtain ⟨a, ha⟩ : ∃ a, a = sl[j]'(by omega) := ⟨_, rfl⟩
  rw [← ha]
  have hd : sl.drop j = a :: sl.drop (j + 1) := by rw [List.drop_eq_getElem_cons (by omega), ha]
  have hma : a ∈ sl := by rw [ha]; exact List.getElem_mem _
  have hsub : ∀ y ∈ sl.drop (j + 1), y ∈ sl := fun y hy => List.mem_of_mem_drop hy
  obtain ⟨m1, m2, m3, m4⟩ := hg.mem a hma
  have hp : (sl.drop j).Pairwise (· < ·) := hg.lt.sublist (List.drop_sublist _ _)
  rw [hd] at hp
  obtain ⟨hp1, hp2⟩ := List.pairwise_cons.1 hp
  obtain ⟨c1, c2, c3, c4⟩ := IsList.cons hc hk hl (m1.up more) (by rw [kd_up m1]; exact m2) (by rw [topB_up hf more m1]; exact m3) (by rw [unitB_up hf more m1]; exact m4) hp1 (fun q y hy q2 => by
    have hy' := hsub y hy
    rw [kd_up m1] at q
    rw [kd_up (hg.mem y hy').1] at q2
    have := hg.one a hma y hy' q q2
    have := hp1 y hy
    omega) hmax
  obtain ⟨k1, k2, k3, ⟨m, k4, k5⟩, k6⟩ := canon_put hc c1 c2 c3
  refine ⟨c1, k1, by rw [hd]; exact c4, more ++ m, by rw [k4, List.append_assoc], by rw [List.length_append]; omega, fun hex => ?_⟩
  have hm := hold hex
  subst hm
  obtain ⟨r0, hr0⟩ := hex
  obtain ⟨rj, hrj⟩ := IsList.drop hc0 hk hr0 j (by omega)
  rw [List.append_nil] at *
  have hu := hrj.up hk hf m
  rw [← k4] at hu
  rw [hd] at hu
  have e := IsList.uniq k1 hk c4 hu
  have := k6 (by rw [e]; exact hrj.inn)
  rw [k4] at this
  exact List.append_right_eq_self.1 this
end

end Go.Proofs.YthifbaacmohmnaaGreat
