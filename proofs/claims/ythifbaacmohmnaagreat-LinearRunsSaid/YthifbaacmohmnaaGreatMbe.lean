/- Joined: LwNull, NormMemM, LawLaws10, NormRow. -/
import Derived.Test.YthifbaacmohmnaaGreatMbb
import Derived.Test.YthifbaacmohmnaaGreatNormNullP
import Derived.Test.YthifbaacmohmnaaGreatMag
import Derived.Test.YthifbaacmohmnaaGreatMav
import Derived.Test.YthifbaacmohmnaaGreatMal
import Derived.Test.YthifbaacmohmnaaGreatMak
import Derived.Maps.AppendAt
/- walk.null of package linear. -/
namespace Go.Proofs.YthifbaacmohmnaaGreat
open Go.RowKit
set_option linter.unusedSimpArgs false
set_option linter.unusedVariables false

section
variable {p : LP} {w w' : World} {ns : List Nd} {F : Nat → Prop} {many : Bool}
theorem LW.off1 (h : LW p w ns F many) {m : Nat} (hg : w.grownBy w' (some m)) (hm : XB p F m) : OffF (XB p F) w w' := (OffF.of (Below.refl _ w)).grown hg (fun b e => by injection e with e; rw [← e]; exact Or.inl hm)
theorem Kept.same {X : Nat → Prop} {m : Nat} {R : Int → Fm → Prop} (h : Kept X w m ns many R) (hb : w'.heap[m]? = w.heap[m]?) (ho : OffF X w w') : Kept X w' m ns many R := by
  have := h.up (X' := X) (R' := R) hb ho (fun b q => Or.inl q) [] (fun x f _ _ q => q)
  rwa [List.append_nil] at this
/-- What null turns: its map alone. -/
structure GrowN (p : LP) (w : World) (ns : List Nd) (F : Nat → Prop) (many : Bool) (w' : World) : Prop where
  g : Grow p w ns F many w' ns F many
  n : OffF (fun b => b = p.mn) w w'
theorem GrowN.lw {p : LP} {w w' : World} {ns : List Nd} {F : Nat → Prop} {many : Bool} (h : GrowN p w ns F many w') : LW p w' ns F many := h.g.lw
theorem GrowN.off {p : LP} {w w' : World} {ns : List Nd} {F : Nat → Prop} {many : Bool} (h : GrowN p w ns F many w') : OffF (XB p F) w w' := h.g.off
theorem GrowN.trans {p : LP} {w w' w2 : World} {ns : List Nd} {F : Nat → Prop} {many : Bool} (h : GrowN p w ns F many w') (h2 : GrowN p w' ns F many w2) : GrowN p w ns F many w2 := ⟨h.g.trans h2.g, h.n.off h2.n (fun b q => Or.inl q)⟩
theorem GrowN.next {p : LP} {w w' w2 : World} {ns : List Nd} {F : Nat → Prop} {many : Bool} (h : GrowN p w ns F many w') (hb : Below w'.heap.size w' w2) : GrowN p w ns F many w2 := ⟨h.g.next hb, h.n.then hb⟩
theorem GrowN.of {p : LP} {w w' : World} {ns : List Nd} {F : Nat → Prop} {many : Bool} (h : LW p w ns F many) (hb : Below w.heap.size w w') : GrowN p w ns F many w' := ⟨Grow.of h hb, OffF.of hb⟩
theorem LW.storeNull (h : LW p w ns F many) {x : Int} (hx : isIn ns x) {v : Bool} (hv : v = nullS ns p.bt x) : ∃ w', (Instr.mapUpdate 99 (.map (some p.mn)) (.int .i64 x) (.agg #[.bool v])).run Tryz.prog w = .ok () w' ∧ GrowN p w ns F many w' := by
  obtain ⟨s, k1, k2, k3⟩ := h.nu
  have hmx := h.few
  have hxI : I64 x := by unfold isIn at hx; unfold I64; omega
  have hsl := nodup_in (n := ns.length) k2 k3
  obtain ⟨w', r1, r2, r3⟩ := k1.storeN hxI hv (by omega)
  have ho := h.off1 r3 (Or.inr (Or.inr (Or.inr (Or.inr rfl))))
  obtain ⟨d1, d2, d3, d4, d5, d6⟩ := h.d
  obtain ⟨l1, l2, l3, l4⟩ := h.lts
  have hb : ∀ b, b < w.heap.size → b ≠ p.mn → w'.heap[b]? = w.heap[b]? := fun b h1 h2 => r3.block b h1 (fun e => by injection e with e; exact h2 e)
  refine ⟨w', r1, ⟨⟨⟨[], (List.append_nil _).symm⟩, ⟨h.ar.keep (fun b q => hb b (h.ar.low b q) (fun e => h.out.2.2.2 (by rw [← e]; exact q))), (hb _ l1 d3).trans h.box, h.fo.same (hb _ l2 d5) ho.xy, h.le.same (hb _ l3 d6) ho.xy, ⟨_, r2, ?_, ?_⟩, h.d, h.out, h.b8, fun b q => Nat.lt_of_lt_of_le (h.ylow b q) ho.size⟩, fun b q => Or.inl q, ho, id⟩, (OffF.of (Below.refl _ w)).grown r3 (fun b e => by injection e with e; exact Or.inl e.symm)⟩⟩
  · by_cases e : x ∈ s
    · rw [if_pos e]; exact k2
    · rw [if_neg e]; exact List.nodup_cons.2 ⟨e, k2⟩
  · intro z hz
    by_cases e : x ∈ s
    · rw [if_pos e] at hz; exact k3 z hz
    · rw [if_neg e] at hz
      rcases List.mem_cons.1 hz with rfl | hz
      · exact hx
      · exact k3 z hz
theorem LW.notX (h : LW p w ns F many) {b : Nat} (hb : w.heap.size ≤ b) : ¬ XB p F b := fun q => by have := h.low b q; omega
end
def NullPost2 (p : LP) (w : World) (ns : List Nd) (F : Nat → Prop) (many : Bool) (id : Int) (e : Ending) (w' : World) : Prop := e = .returned (.bool (nullS ns p.bt id)) ∧ GrowN p w ns F many w'
def NullIs2 (p : LP) (n : Nat) : Prop := ∀ (id : Int) {w : World} {ns : List Nd} {F : Nat → Prop} {many : Bool}, id.toNat ≤ n → LW p w ns F many → isIn ns id → Calls Tryz.prog 39 #[.pointer (some ⟨p.gw, 0, none⟩), .int .i64 id] w (NullPost2 p w ns F many id)
section
variable {p : LP}
set_option maxRecDepth 100000 in
set_option maxHeartbeats 16000000 in
theorem lNullAt (n : Nat) (hIH : Hid (∀ k, k + 1 = n → NullIs2 p k)) : NullIs2 p n := by
  intro id w ns F many hn h hin
  have hmx := h.few
  have hid : I64 id := by unfold isIn at hin; unfold I64; omega
  have HW := Lib.hid h
  have HI := Lib.hid hin
  have HNn := Lib.hid hn
  have HId := Lib.hid hid
  obtain ⟨gp, hgp⟩ := arenaMid.ptr h.ar
  have HP := Lib.hid hgp
  obtain ⟨s, k1, k2, k3⟩ := h.nu
  have hlk := k1.lookN hid
  obtain ⟨c0, c1, c2, c3, c4, c5, c6, c7⟩ := h.cells
  have hdx : decide (0 ≤ id ∧ id < (ns.length : Int)) = true := decide_eq_true hin
  by_cases hs : id ∈ s
  · rw [decide_eq_true hs, Bool.true_and] at hlk
    have HB2 : Hid (Below w.heap.size w (w.alloc (.cells #[.bool (nullS ns p.bt id)] 107))) := Lib.hid ((Below.refl _ _).alloc (Nat.le_refl _) _)
    clear h hin hn hid hgp k1 k2 k3 hs hdx
    go_enter Tryz.func39, Tryz.ntmps39
    go_wp2_with fail
    go_ret
    exact ⟨rfl, GrowN.of HW.out HB2.out⟩
  rw [decide_eq_false hs, Bool.false_and] at hlk
  obtain ⟨w2, hw2⟩ : ∃ w2, w2 = w.alloc (.cells #[.bool false] 107) := ⟨_, rfl⟩
  have HB2 : Hid (Below w.heap.size w w2) := Lib.hid (by rw [hw2]; exact (Below.refl _ _).alloc (Nat.le_refl _) _)
  have HW2 := Lib.hid (h.next HB2.out)
  have HN := arenaMid.node id HW2.out.ar hid
  rw [hdx, hgp] at HN
  have HN := Lib.hid HN
  have HWe := Lib.hid hw2
  rw [hw2] at HN
  have HFi := Lib.hid h.fine
  have HIc : Hid (∀ (c : Int) (w3 : World), c < id → isIn ns c → LW p w3 ns F many → Calls Tryz.prog 39 #[.pointer (some ⟨p.gw, 0, none⟩), .int .i64 c] w3 (NullPost2 p w3 ns F many c)) := Lib.hid (by
    intro c w3 hc hci hW3
    have h1 := HI.out
    have h2 := hci
    unfold isIn at h1 h2
    obtain ⟨k, hk⟩ : ∃ k, n = k + 1 := ⟨n - 1, by have := HNn.out; omega⟩
    exact hIH.out k hk.symm c (by have := HNn.out; omega) hW3 hci)
  rw [hgp] at c0
  have c0a : (w.alloc (.cells #[.bool false] 107)).cell? ⟨p.gw, 0, none⟩ = some (.pointer (some ⟨gp, 0, none⟩)) := by
    have := (HW2.out).cells.1
    rw [hw2, hgp] at this; exact this
  clear h hin hn hid hgp k1 k2 k3 hs hdx hw2 c0 c1 c2 c3 c4 c6 c7
  go_enter Tryz.func39, Tryz.ntmps39
  go_wp2_with fail
  refine HN.out.mono ?_
  rw [← HWe.out]
  rintro e w3 ⟨u, rfl, hu, hb3, _⟩
  have hu := hu HI.out
  have HU := Lib.hid hu
  have HK : Hid (kd ns id = u.kind ∧ ka ns id = u.a ∧ kb ns id = u.b) := Lib.hid ⟨by unfold kd; rw [← hu], by unfold ka; rw [← hu], by unfold kb; rw [← hu]⟩
  have HXb := Lib.hid (boxN_at w3 u)
  have HBb := Lib.hid (HB2.out.trans ((hb3.trans ((boxN_next w3 u).mono hb3.size)).mono HB2.out.size))
  have HG := Lib.hid (GrowN.of HW.out HBb.out)
  have HNx : Hid (¬ XB p F w3.heap.size) := Lib.hid (HW2.out.notX hb3.size)
  have hone := Nd.one u
  have ck := (Nd.cells HXb.out).1
  have cA := (Nd.cells HXb.out).2.2.2.2.2.1
  have cB := (Nd.cells HXb.out).2.2.2.2.2.2.1
  clear hu hb3 hlk c0a c5
  by_cases hk3 : u.kind = 3
  · have HKd := Lib.hid hk3
    rw [hk3] at ck
    clear hk3 
    have HV : Hid (nullS ns p.bt id = (nullS ns p.bt u.a && nullS ns p.bt u.b)) := Lib.hid (by rw [← HK.out.2.1, ← HK.out.2.2]; exact null_3 HFi.out p.bt HI.out (by rw [HK.out.1]; exact HKd.out))
    obtain ⟨⟨ia, la⟩, ib, lb⟩ := in_two HFi.out HI.out (by rw [HK.out.1]; have := HKd.out; omega)
    rw [HK.out.2.1] at ia la
    rw [HK.out.2.2] at ib lb
    have HIa := Lib.hid ia
    have HIb := Lib.hid ib
    have HLa := Lib.hid la
    have HLb := Lib.hid lb
    clear ia la ib lb
    go_wp2_with (first
      | (with_reducible show wpList _ _ _ ({ dst := none, op := .store 61 _ _, type := _, pos := _, after := _, guard := _ } :: _) _ _
         refine wpList_store_row rfl 61 _ _ rfl w3.heap.size u.cs.toArray rfl rfl 61 Nd.zero.cs.toArray (At.new _ _ _) (by kernel_rfl) rfl hone ?_
         first | change wpList _ _ _ _ _ (boxN w3 u) | change Exit.then _ _ _ _ (boxN w3 u))
      | fail)
    refine (HIc.out u.a _ HLa.out HIa.out HG.out.lw).mono ?_
    rintro e w4 ⟨rfl, gw4⟩
    have HGw4 := Lib.hid (HG.out.trans gw4)
    have HUw4 : Hid (At w4 w3.heap.size 61 u.cs.toArray) := Lib.hid ((gw4.off.block _ HXb.out.lt HNx.out).trans HXb.out)
    clear gw4
    obtain ⟨r, hr⟩ : ∃ r, nullS ns p.bt u.a = r := ⟨_, rfl⟩
    rw [hr] at HV
    rw [hr]
    clear hr cA cB ck
    have cB := (Nd.cells HUw4.out).2.2.2.2.2.2.1
    cases r
    · obtain ⟨w9, hr9, hg9⟩ := HGw4.out.lw.storeNull HI.out (v := false) (by rw [HV.out]; rfl)
      have HG9 := Lib.hid (HGw4.out.trans hg9)
      have c5 := HGw4.out.lw.cells.2.2.2.2.2.1
      clear hg9
      go_wp2_with fail
      go_ret
      exact ⟨by rw [show nullS ns p.bt id = false by rw [HV.out]; rfl]; rfl, HG9.out⟩
    · go_wp2_with fail
      refine (HIc.out u.b _ HLb.out HIb.out HGw4.out.lw).mono ?_
      rintro e w5 ⟨rfl, gw5⟩
      have HGw5 := Lib.hid (HGw4.out.trans gw5)
      have HUw5 : Hid (At w5 w3.heap.size 61 u.cs.toArray) := Lib.hid ((gw5.off.block _ HUw4.out.lt HNx.out).trans HUw4.out)
      clear gw5
      obtain ⟨w9, hr9, hg9⟩ := HGw5.out.lw.storeNull HI.out (v := nullS ns p.bt u.b) (by rw [HV.out]; rfl)
      have HG9 := Lib.hid (HGw5.out.trans hg9)
      have c5 := HGw5.out.lw.cells.2.2.2.2.2.1
      clear hg9
      go_wp2_with fail
      go_ret
      exact ⟨by rw [show nullS ns p.bt id = nullS ns p.bt u.b by rw [HV.out]; rfl]; rfl, HG9.out⟩
  have hb3 := (int_ne hk3).1
  clear hk3
  by_cases hk5 : u.kind = 5
  · have HKd := Lib.hid hk5
    rw [hk5] at ck
    clear hk5 hb3
    have HV : Hid (nullS ns p.bt id = (nullS ns p.bt u.a && nullS ns p.bt u.b)) := Lib.hid (by rw [← HK.out.2.1, ← HK.out.2.2]; exact null_5 HFi.out p.bt HI.out (by rw [HK.out.1]; exact HKd.out))
    obtain ⟨⟨ia, la⟩, ib, lb⟩ := in_two HFi.out HI.out (by rw [HK.out.1]; have := HKd.out; omega)
    rw [HK.out.2.1] at ia la
    rw [HK.out.2.2] at ib lb
    have HIa := Lib.hid ia
    have HIb := Lib.hid ib
    have HLa := Lib.hid la
    have HLb := Lib.hid lb
    clear ia la ib lb
    go_wp2_with (first
      | (with_reducible show wpList _ _ _ ({ dst := none, op := .store 61 _ _, type := _, pos := _, after := _, guard := _ } :: _) _ _
         refine wpList_store_row rfl 61 _ _ rfl w3.heap.size u.cs.toArray rfl rfl 61 Nd.zero.cs.toArray (At.new _ _ _) (by kernel_rfl) rfl hone ?_
         first | change wpList _ _ _ _ _ (boxN w3 u) | change Exit.then _ _ _ _ (boxN w3 u))
      | fail)
    refine (HIc.out u.a _ HLa.out HIa.out HG.out.lw).mono ?_
    rintro e w4 ⟨rfl, gw4⟩
    have HGw4 := Lib.hid (HG.out.trans gw4)
    have HUw4 : Hid (At w4 w3.heap.size 61 u.cs.toArray) := Lib.hid ((gw4.off.block _ HXb.out.lt HNx.out).trans HXb.out)
    clear gw4
    obtain ⟨r, hr⟩ : ∃ r, nullS ns p.bt u.a = r := ⟨_, rfl⟩
    rw [hr] at HV
    rw [hr]
    clear hr cA cB ck
    have cB := (Nd.cells HUw4.out).2.2.2.2.2.2.1
    cases r
    · obtain ⟨w9, hr9, hg9⟩ := HGw4.out.lw.storeNull HI.out (v := false) (by rw [HV.out]; rfl)
      have HG9 := Lib.hid (HGw4.out.trans hg9)
      have c5 := HGw4.out.lw.cells.2.2.2.2.2.1
      clear hg9
      go_wp2_with fail
      go_ret
      exact ⟨by rw [show nullS ns p.bt id = false by rw [HV.out]; rfl]; rfl, HG9.out⟩
    · go_wp2_with fail
      refine (HIc.out u.b _ HLb.out HIb.out HGw4.out.lw).mono ?_
      rintro e w5 ⟨rfl, gw5⟩
      have HGw5 := Lib.hid (HGw4.out.trans gw5)
      have HUw5 : Hid (At w5 w3.heap.size 61 u.cs.toArray) := Lib.hid ((gw5.off.block _ HUw4.out.lt HNx.out).trans HUw4.out)
      clear gw5
      obtain ⟨w9, hr9, hg9⟩ := HGw5.out.lw.storeNull HI.out (v := nullS ns p.bt u.b) (by rw [HV.out]; rfl)
      have HG9 := Lib.hid (HGw5.out.trans hg9)
      have c5 := HGw5.out.lw.cells.2.2.2.2.2.1
      clear hg9
      go_wp2_with fail
      go_ret
      exact ⟨by rw [show nullS ns p.bt id = nullS ns p.bt u.b by rw [HV.out]; rfl]; rfl, HG9.out⟩
  have hb5 := (int_ne hk5).1
  clear hk5
  by_cases hk4 : u.kind = 4
  · have HKd := Lib.hid hk4
    rw [hk4] at ck
    clear hk4 hb3 hb5
    have HV : Hid (nullS ns p.bt id = (nullS ns p.bt u.a || nullS ns p.bt u.b)) := Lib.hid (by rw [← HK.out.2.1, ← HK.out.2.2]; exact null_4 HFi.out p.bt HI.out (by rw [HK.out.1]; exact HKd.out))
    obtain ⟨⟨ia, la⟩, ib, lb⟩ := in_two HFi.out HI.out (by rw [HK.out.1]; have := HKd.out; omega)
    rw [HK.out.2.1] at ia la
    rw [HK.out.2.2] at ib lb
    have HIa := Lib.hid ia
    have HIb := Lib.hid ib
    have HLa := Lib.hid la
    have HLb := Lib.hid lb
    clear ia la ib lb
    go_wp2_with (first
      | (with_reducible show wpList _ _ _ ({ dst := none, op := .store 61 _ _, type := _, pos := _, after := _, guard := _ } :: _) _ _
         refine wpList_store_row rfl 61 _ _ rfl w3.heap.size u.cs.toArray rfl rfl 61 Nd.zero.cs.toArray (At.new _ _ _) (by kernel_rfl) rfl hone ?_
         first | change wpList _ _ _ _ _ (boxN w3 u) | change Exit.then _ _ _ _ (boxN w3 u))
      | fail)
    refine (HIc.out u.a _ HLa.out HIa.out HG.out.lw).mono ?_
    rintro e w4 ⟨rfl, gw4⟩
    have HGw4 := Lib.hid (HG.out.trans gw4)
    have HUw4 : Hid (At w4 w3.heap.size 61 u.cs.toArray) := Lib.hid ((gw4.off.block _ HXb.out.lt HNx.out).trans HXb.out)
    clear gw4
    obtain ⟨r, hr⟩ : ∃ r, nullS ns p.bt u.a = r := ⟨_, rfl⟩
    rw [hr] at HV
    rw [hr]
    clear hr cA cB ck
    have cB := (Nd.cells HUw4.out).2.2.2.2.2.2.1
    cases r
    · go_wp2_with fail
      refine (HIc.out u.b _ HLb.out HIb.out HGw4.out.lw).mono ?_
      rintro e w5 ⟨rfl, gw5⟩
      have HGw5 := Lib.hid (HGw4.out.trans gw5)
      have HUw5 : Hid (At w5 w3.heap.size 61 u.cs.toArray) := Lib.hid ((gw5.off.block _ HUw4.out.lt HNx.out).trans HUw4.out)
      clear gw5
      obtain ⟨w9, hr9, hg9⟩ := HGw5.out.lw.storeNull HI.out (v := nullS ns p.bt u.b) (by rw [HV.out]; rfl)
      have HG9 := Lib.hid (HGw5.out.trans hg9)
      have c5 := HGw5.out.lw.cells.2.2.2.2.2.1
      clear hg9
      go_wp2_with fail
      go_ret
      exact ⟨by rw [show nullS ns p.bt id = nullS ns p.bt u.b by rw [HV.out]; rfl]; rfl, HG9.out⟩
    · obtain ⟨w9, hr9, hg9⟩ := HGw4.out.lw.storeNull HI.out (v := true) (by rw [HV.out]; rfl)
      have HG9 := Lib.hid (HGw4.out.trans hg9)
      have c5 := HGw4.out.lw.cells.2.2.2.2.2.1
      clear hg9
      go_wp2_with fail
      go_ret
      exact ⟨by rw [show nullS ns p.bt id = true by rw [HV.out]; rfl]; rfl, HG9.out⟩
  have hb4 := (int_ne hk4).1
  clear hk4
  by_cases hk6 : u.kind = 6
  · have HKd := Lib.hid hk6
    rw [hk6] at ck
    clear hk6 hb3 hb5 hb4
    have HV : Hid (nullS ns p.bt id = !nullS ns p.bt u.a) := Lib.hid (by rw [← HK.out.2.1]; exact null_6 HFi.out p.bt HI.out (by rw [HK.out.1]; exact HKd.out))
    obtain ⟨ia, la⟩ := in_one HFi.out HI.out (by rw [HK.out.1]; have := HKd.out; omega)
    rw [HK.out.2.1] at ia la
    have HIa := Lib.hid ia
    have HLa := Lib.hid la
    clear ia la
    go_wp2_with (first
      | (with_reducible show wpList _ _ _ ({ dst := none, op := .store 61 _ _, type := _, pos := _, after := _, guard := _ } :: _) _ _
         refine wpList_store_row rfl 61 _ _ rfl w3.heap.size u.cs.toArray rfl rfl 61 Nd.zero.cs.toArray (At.new _ _ _) (by kernel_rfl) rfl hone ?_
         first | change wpList _ _ _ _ _ (boxN w3 u) | change Exit.then _ _ _ _ (boxN w3 u))
      | fail)
    refine (HIc.out u.a _ HLa.out HIa.out HG.out.lw).mono ?_
    rintro e w4 ⟨rfl, gw4⟩
    have HGw4 := Lib.hid (HG.out.trans gw4)
    have HUw4 : Hid (At w4 w3.heap.size 61 u.cs.toArray) := Lib.hid ((gw4.off.block _ HXb.out.lt HNx.out).trans HXb.out)
    clear gw4
    obtain ⟨w9, hr9, hg9⟩ := HGw4.out.lw.storeNull HI.out (v := !nullS ns p.bt u.a) (by rw [HV.out])
    have HG9 := Lib.hid (HGw4.out.trans hg9)
    have c5 := HGw4.out.lw.cells.2.2.2.2.2.1
    clear hg9
    go_wp2_with fail
    go_ret
    exact ⟨by rw [show nullS ns p.bt id = !nullS ns p.bt u.a by rw [HV.out]]; rfl, HG9.out⟩
  have hb6 := (int_ne hk6).1
  clear hk6
  have HGd := Lib.hid (HG.out.next (Below.drew (Below.refl _ _)))
  have HNl := Lib.hid (nNull arenaMid id p.bt (HGd.out.lw.ar) HId.out HGd.out.lw.b8.2)
  rw [HP.out] at HNl
  obtain ⟨c0, _, c2, _⟩ := HG.out.lw.cells
  rw [HP.out] at c0
  clear cA cB
  go_wp2_with (first
    | (with_reducible show wpList _ _ _ ({ dst := none, op := .store 61 _ _, type := _, pos := _, after := _, guard := _ } :: _) _ _
       refine wpList_store_row rfl 61 _ _ rfl w3.heap.size u.cs.toArray rfl rfl 61 Nd.zero.cs.toArray (At.new _ _ _) (by kernel_rfl) rfl hone ?_
       first | change wpList _ _ _ _ _ (boxN w3 u) | change Exit.then _ _ _ _ (boxN w3 u))
    | fail)
  go_region_with (first
    | (go_at_call 67; (with_reducible refine (HNl.out).mono ?_); rintro e w4 ⟨rfl, hb4⟩
       have HB4 := Lib.hid hb4
       clear hb4))
  all_goals
    obtain ⟨w9, hr9, hg9⟩ := (HGd.out.next HB4.out).lw.storeNull HI.out (v := nullS ns p.bt id) rfl
    have HG9 := Lib.hid ((HGd.out.next HB4.out).trans hg9)
    have c5 := (HGd.out.next HB4.out).lw.cells.2.2.2.2.2.1
    clear hg9
    go_wp2_with fail
    go_ret
    exact ⟨rfl, HG9.out⟩
theorem lNullAll : ∀ n : Nat, NullIs2 p n
  | 0 => lNullAt 0 (Lib.hid (fun k h => absurd h (Nat.succ_ne_zero k)))
  | n + 1 => lNullAt (n + 1) (Lib.hid (fun k h => (Nat.succ.inj h).symm ▸ lNullAll n))
theorem lNullN {w : World} {ns : List Nd} {F : Nat → Prop} {many : Bool} (h : LW p w ns F many) (id : Int) (hi : isIn ns id) : Calls Tryz.prog 39 #[.pointer (some ⟨p.gw, 0, none⟩), .int .i64 id] w (NullPost2 p w ns F many id) := lNullAll id.toNat id (Nat.le_refl _) h hi
theorem lNull {w : World} {ns : List Nd} {F : Nat → Prop} {many : Bool} (h : LW p w ns F many) (id : Int) (hi : isIn ns id) : Calls Tryz.prog 39 #[.pointer (some ⟨p.gw, 0, none⟩), .int .i64 id] w (fun e w' => e = .returned (.bool (nullS ns p.bt id)) ∧ Grow p w ns F many w' ns F many) := (lNullN h id hi).mono (fun e w' q => ⟨q.1, q.2.g⟩)
end

end Go.Proofs.YthifbaacmohmnaaGreat

/- The members of nodes, found one by one: mathematics; no program is named. -/
namespace Go.Proofs.YthifbaacmohmnaaGreat
open Go.RowKit
set_option linter.unusedSimpArgs false
set_option linter.unusedVariables false

structure MemInv (ns : List Nd) (k : Int) (l s T fd : List Int) : Prop where
  nd : s.Nodup
  sin : ∀ z ∈ s, isIn ns z
  tin : ∀ z ∈ T, isIn ns z
  fnd : fd.Nodup
  ffr : ∀ y ∈ fd, y ∈ s ∧ kd ns y ≠ k
  leaf : ∀ x ∈ s, kd ns x ≠ k → x ∈ fd
  node : ∀ x ∈ s, kd ns x = k → (ka ns x ∈ s ∨ ka ns x ∈ T) ∧ (kb ns x ∈ s ∨ kb ns x ∈ T)
  all : ∀ x ∈ l, x ∈ s ∨ x ∈ T
  snd : ∀ z, z ∈ s ∨ z ∈ T → ∀ y ∈ mem ns k z, ∃ x ∈ l, y ∈ mem ns k x
theorem MemInv.start {ns : List Nd} {k : Int} {l : List Int} (hl : ∀ x ∈ l, isIn ns x) : MemInv ns k l [] l [] :=
  ⟨List.nodup_nil, (by intro z h; cases h), hl, List.nodup_nil, (by intro z h; cases h), (by intro z h; cases h), (by intro z h; cases h), fun x h => Or.inr h, fun z h y hy => by
    rcases h with h | h
    · cases h
    · exact ⟨z, h, hy⟩⟩
theorem MemInv.skip {ns : List Nd} {k : Int} {l s T fd : List Int} {x : Int} (h : MemInv ns k l s (T ++ [x]) fd) (hx : x ∈ s) : MemInv ns k l s T fd := by
  have sub : ∀ z, z ∈ s ∨ z ∈ T ++ [x] → z ∈ s ∨ z ∈ T := fun z q => by
    rcases q with q | q
    · exact Or.inl q
    · rcases List.mem_append.1 q with q | q
      · exact Or.inr q
      · rw [List.mem_singleton.1 q]; exact Or.inl hx
  have sup : ∀ z, z ∈ s ∨ z ∈ T → z ∈ s ∨ z ∈ T ++ [x] := fun z q => by
    rcases q with q | q
    · exact Or.inl q
    · exact Or.inr (List.mem_append_left _ q)
  exact ⟨h.nd, h.sin, fun z hz => h.tin z (List.mem_append_left _ hz), h.fnd, h.ffr, h.leaf, fun y hy hk => ⟨sub _ (h.node y hy hk).1, sub _ (h.node y hy hk).2⟩, fun y hy => sub _ (h.all y hy), fun z hz => h.snd z (sup z hz)⟩
section
variable {ns : List Nd} (hf : FineN ns) {k : Int} (hk : k = 4 ∨ k = 5)
include hf hk
theorem MemInv.nodeStep {l s T fd : List Int} {x : Int} (h : MemInv ns k l s (T ++ [x]) fd) (hx : x ∉ s) (e : kd ns x = k) : MemInv ns k l (x :: s) (T ++ [ka ns x, kb ns x]) fd := by
  have hxi : isIn ns x := h.tin x (by simp)
  obtain ⟨⟨a0, _⟩, b0, _⟩ := in_two hf hxi (by omega)
  have sub : ∀ z, z ∈ s ∨ z ∈ T ++ [x] → z ∈ x :: s ∨ z ∈ T ++ [ka ns x, kb ns x] := fun z q => by
    rcases q with q | q
    · exact Or.inl (List.mem_cons_of_mem _ q)
    · rcases List.mem_append.1 q with q | q
      · exact Or.inr (List.mem_append_left _ q)
      · rw [List.mem_singleton.1 q]; exact Or.inl (by simp)
  refine ⟨List.nodup_cons.2 ⟨hx, h.nd⟩, fun z hz => ?_, fun z hz => ?_, h.fnd, fun y hy => ⟨List.mem_cons_of_mem _ (h.ffr y hy).1, (h.ffr y hy).2⟩, fun y hy hn => ?_, fun y hy hn => ?_, fun y hy => sub _ (h.all y hy), fun z hz y hy => ?_⟩
  · rcases List.mem_cons.1 hz with rfl | hz
    · exact hxi
    · exact h.sin z hz
  · rcases List.mem_append.1 hz with hz | hz
    · exact h.tin z (List.mem_append_left _ hz)
    · simp at hz
      rcases hz with rfl | rfl
      · exact a0
      · exact b0
  · rcases List.mem_cons.1 hy with rfl | hy
    · exact absurd e hn
    · exact h.leaf y hy hn
  · rcases List.mem_cons.1 hy with rfl | hy
    · exact ⟨Or.inr (List.mem_append_right _ (by simp)), Or.inr (List.mem_append_right _ (by simp))⟩
    · exact ⟨sub _ (h.node y hy hn).1, sub _ (h.node y hy hn).2⟩
  · have hx' := h.snd x (Or.inr (by simp))
    rw [mem_node hf hk hxi e] at hx'
    rcases hz with hz | hz
    · rcases List.mem_cons.1 hz with rfl | hz
      · exact h.snd z (Or.inr (by simp)) y hy
      · exact h.snd z (Or.inl hz) y hy
    · rcases List.mem_append.1 hz with hz | hz
      · exact h.snd z (Or.inr (List.mem_append_left _ hz)) y hy
      · simp at hz
        rcases hz with rfl | rfl
        · exact hx' y (List.mem_append_left _ hy)
        · exact hx' y (List.mem_append_right _ hy)
omit hf hk in
theorem MemInv.leafStep {l s T fd : List Int} {x : Int} (h : MemInv ns k l s (T ++ [x]) fd) (hx : x ∉ s) (e : kd ns x ≠ k) : MemInv ns k l (x :: s) T (fd ++ [x]) := by
  have hxi : isIn ns x := h.tin x (by simp)
  have sub : ∀ z, z ∈ s ∨ z ∈ T ++ [x] → z ∈ x :: s ∨ z ∈ T := fun z q => by
    rcases q with q | q
    · exact Or.inl (List.mem_cons_of_mem _ q)
    · rcases List.mem_append.1 q with q | q
      · exact Or.inr q
      · rw [List.mem_singleton.1 q]; exact Or.inl (by simp)
  refine ⟨List.nodup_cons.2 ⟨hx, h.nd⟩, fun z hz => ?_, fun z hz => h.tin z (List.mem_append_left _ hz), ?_, fun y hy => ?_, fun y hy hn => ?_, fun y hy hn => ?_, fun y hy => sub _ (h.all y hy), fun z hz y hy => ?_⟩
  · rcases List.mem_cons.1 hz with rfl | hz
    · exact hxi
    · exact h.sin z hz
  · refine List.nodup_append.2 ⟨h.fnd, by simp, fun a ha b hb => ?_⟩
    rw [List.mem_singleton.1 hb]
    intro q
    rw [q] at ha
    exact hx (h.ffr x ha).1
  · rcases List.mem_append.1 hy with hy | hy
    · exact ⟨List.mem_cons_of_mem _ (h.ffr y hy).1, (h.ffr y hy).2⟩
    · rw [List.mem_singleton.1 hy]; exact ⟨by simp, e⟩
  · rcases List.mem_cons.1 hy with rfl | hy
    · exact List.mem_append_right _ (by simp)
    · exact List.mem_append_left _ (h.leaf y hy hn)
  · rcases List.mem_cons.1 hy with rfl | hy
    · exact absurd hn e
    · exact ⟨sub _ (h.node y hy hn).1, sub _ (h.node y hy hn).2⟩
  · rcases hz with hz | hz
    · rcases List.mem_cons.1 hz with rfl | hz
      · exact h.snd z (Or.inr (by simp)) y hy
      · exact h.snd z (Or.inl hz) y hy
    · exact h.snd z (Or.inr (List.mem_append_left _ hz)) y hy
theorem MemInv.done {l s fd : List Int} (h : MemInv ns k l s [] fd) : fd.Nodup ∧ ∀ y, y ∈ fd ↔ ∃ x ∈ l, y ∈ mem ns k x := by
  have up : ∀ (n : Nat) (x : Int), x.toNat ≤ n → x ∈ s → ∀ y ∈ mem ns k x, y ∈ fd := by
    intro n
    induction n with
    | zero =>
      intro x hn hx y hy
      by_cases e : kd ns x = k
      · have h1 := (in_two hf (h.sin x hx) (by omega)).1
        have h2 := h.sin x hx
        unfold isIn at h1 h2
        omega
      · rw [mem_leaf e, List.mem_singleton] at hy
        rw [hy]; exact h.leaf x hx e
    | succ n ih =>
      intro x hn hx y hy
      by_cases e : kd ns x = k
      · have h1 := in_two hf (h.sin x hx) (by omega)
        have h2 := h.sin x hx
        unfold isIn at h1 h2
        have h3 := h.node x hx e
        have ha : ka ns x ∈ s := by
          rcases h3.1 with q | q
          · exact q
          · cases q
        have hb : kb ns x ∈ s := by
          rcases h3.2 with q | q
          · exact q
          · cases q
        rw [mem_node hf hk (h.sin x hx) e] at hy
        rcases List.mem_append.1 hy with hy | hy
        · exact ih _ (by omega) ha y hy
        · exact ih _ (by omega) hb y hy
      · rw [mem_leaf e, List.mem_singleton] at hy
        rw [hy]; exact h.leaf x hx e
  refine ⟨h.fnd, fun y => ⟨fun hy => ?_, ?_⟩⟩
  · obtain ⟨h1, h2⟩ := h.ffr y hy
    exact h.snd y (Or.inl h1) y (by rw [mem_leaf h2]; simp)
  · rintro ⟨x, hx, hy⟩
    rcases h.all x hx with q | q
    · exact up _ x (Nat.le_refl _) q y hy
    · cases q
end
/-- How many there are that aren't seen. -/
def unseen (n : Nat) (p : Int → Bool) : Nat := ((List.range n).filter (fun (j : Nat) => !p (j : Int))).length
theorem unseen_less {n : Nat} {s : List Int} {x : Int} (h0 : 0 ≤ x) (h1 : x < (n : Int)) (hx : x ∉ s) : unseen n (fun y => decide (y ∈ x :: s)) + 1 ≤ unseen n (fun y => decide (y ∈ s)) := by
  have key : ∀ (l : List Nat), ((l.filter (fun (j : Nat) => !decide ((j : Int) ∈ x :: s))).length + (if x.toNat ∈ l then 1 else 0) ≤ (l.filter (fun (j : Nat) => !decide ((j : Int) ∈ s))).length) := by
    intro l
    induction l with
    | nil => simp
    | cons a l ih =>
      by_cases e : (a : Int) = x
      · have ea : x.toNat = a := by omega
        have h2 : decide ((a : Int) ∈ x :: s) = true := by rw [e]; simp
        have h3 : decide ((a : Int) ∈ s) = false := by rw [e]; simp [hx]
        have h5 : x.toNat ∈ a :: l := by rw [ea]; simp
        simp only [List.filter_cons, h2, h3, Bool.not_true, Bool.not_false, if_true, Bool.false_eq_true, if_false, List.length_cons, h5]
        have : (l.filter (fun (j : Nat) => !decide ((j : Int) ∈ x :: s))).length ≤ (l.filter (fun (j : Nat) => !decide ((j : Int) ∈ s))).length := by omega
        omega
      · have ea : x.toNat ≠ a := by omega
        have h2 : decide ((a : Int) ∈ x :: s) = decide ((a : Int) ∈ s) := by simp [e]
        have h4 : (if x.toNat ∈ a :: l then 1 else 0) = (if x.toNat ∈ l then 1 else 0) := by simp [ea]
        rw [h4]
        cases q : decide ((a : Int) ∈ s) with
        | true =>
          simp only [List.filter_cons, h2, q, Bool.not_true, Bool.false_eq_true, if_false]
          exact ih
        | false =>
          simp only [List.filter_cons, h2, q, Bool.not_false, if_true, List.length_cons]
          omega
  have := key (List.range n)
  rw [if_pos (List.mem_range.2 (by omega))] at this
  exact this

end Go.Proofs.YthifbaacmohmnaaGreat

/- bolterlaw10.laws: the laws hold of three nodes, by what putting together does. -/
namespace Go.Proofs.YthifbaacmohmnaaGreat
open Go.RowKit
set_option linter.unusedSimpArgs false
set_option linter.unusedVariables false

def NoIs (ns : List Nd) (x : Int) : Prop := isIn ns x ∧ kd ns x = 0
def EmIs (ns : List Nd) (x : Int) : Prop := isIn ns x ∧ kd ns x = 1
def AlIs (ns : List Nd) (x : Int) : Prop := isIn ns x ∧ isAl ns x = true
section
variable {ns ns' : List Nd} (hf : FineN ns) (hu : UpN ns ns') {k x y r : Int} {c : Nat} {l : List Int}
theorem NoIs.mem (h : NoIs ns x) {k : Int} (hk : k = 4 ∨ k = 5) : (mem ns k x).length = 1 := by rw [mem_leaf (by rw [h.2]; omega)]; rfl
theorem AlIs.kd (h : AlIs ns x) : kd ns x = 6 := by
  have := h.2
  unfold isAl at this
  rw [Bool.and_eq_true, decide_eq_true_eq] at this
  exact this.1
theorem AlIs.mem (h : AlIs ns x) {k : Int} (hk : k = 4 ∨ k = 5) : (mem ns k x).length = 1 := by rw [mem_leaf (by rw [h.kd]; omega)]; rfl
theorem NoIs.no (h : NoIs ns x) : isNo ns x = true := decide_eq_true h.2
theorem EmIs.catN (h : EmIs ns x) : catN ns x = 0 := by show ((catV ns x).getD []).length = 0; rw [cat_empty h.2]; rfl
theorem NoIs.catN (h : NoIs ns x) : catN ns x = 0 := by show ((catV ns x).getD []).length = 0; rw [cat_none h.2]; rfl
end
section
variable {AA : World → Value → List Nd → (Nat → Prop) → Prop}

end

end Go.Proofs.YthifbaacmohmnaaGreat

/- Numbers of nodes in a row of the call's own, beside the arena; how long they are. -/
namespace Go.Proofs.YthifbaacmohmnaaGreat
open Go.RowKit
set_option linter.unusedSimpArgs false
set_option linter.unusedVariables false

def idL (l : List Int) : List Value := l.map (fun x => Value.int .i64 x)
def IdRow (w : World) (base : Nat) (v : Value) (l : List Int) : Prop := w.ownsRow base 3 1 v l.length (idL l)
theorem info_intR : (Tryz.prog.info? 3).map (fun i => (i.zero, i.size, i.bytes)) = some (some (.int .i64 0), 1, 8) := by kernel_rfl
theorem IdRow.off {w w' : World} {base : Nat} {v : Value} {l : List Int} {F : Nat → Prop} (h : IdRow w base v l) (ho : OffF F w w') (hn : ∀ b, F b → v.ownBlock ≠ some b) : IdRow w' base v l := by
  obtain ⟨h1, h2⟩ := id h
  refine ⟨h1, ?_⟩
  rcases h2 with ⟨e, q⟩ | ⟨g, cap, cur, e, hb, hc, r⟩
  · exact Or.inl ⟨e, q⟩
  · refine Or.inr ⟨g, cap, cur, e, hb, ?_, r⟩
    have hlt := (World.ownsRow.lt h g (by rw [e]; rfl)).2
    exact (ho.block g hlt (fun q => hn g q (by rw [e]; rfl))).trans hc
theorem IdRow.made (w : World) (base : Nat) (hb : base ≤ w.heap.size) (x y z : Int) : IdRow (w.alloc (.cells #[.int .i64 x, .int .i64 y, .int .i64 z] 3)) base (.slice (some ⟨w.heap.size, 0, none⟩) 3 3) [x, y, z] :=
  ⟨rfl, .inr ⟨w.heap.size, 3, #[.int .i64 x, .int .i64 y, .int .i64 z], rfl, hb, At.new _ _ _, Nat.le_refl _, by unfold maxLen; omega, rfl, rfl⟩⟩
theorem IdRow.form {w : World} {base : Nat} {v : Value} {l : List Int} (h : IdRow w base v l) (h0 : 0 < l.length) : ∃ g cap, v = .slice (some ⟨g, 0, none⟩) l.length cap ∧ (∀ (j : Nat) (hj : j < l.length), w.cell? ⟨g, j, none⟩ = some (.int .i64 l[j])) := by
  obtain ⟨g, cap, rfl, _, _⟩ := World.ownsRow.form h h0
  refine ⟨g, cap, rfl, fun j hj => ?_⟩
  rw [World.ownsRow.cellAt h j (by omega)]
  unfold idL
  rw [List.getElem?_map, List.getElem?_eq_getElem hj]
  rfl
section
variable {AA : World → Value → List Nd → (Nat → Prop) → Prop}
structure Rnd (AA : World → Value → List Nd → (Nat → Prop) → Prop) (w0 w : World) (a : Value) (ns : List Nd) (F : Nat → Prop) (v : Value) (ids : List Int) : Prop where
  aa : AA w a ns F
  canon : Canon ns
  row : IdRow w w0.heap.size v ids
  apart : ∀ b, F b → v.ownBlock ≠ some b
  own : ∀ b, F b → w0.heap.size ≤ b
  below : Below w0.heap.size w0 w
variable (S : ArenaBig AA) {w0 w w' : World} {a v : Value} {ns ns' : List Nd} {F : Nat → Prop} {ids : List Int} {m : Nat}
theorem Rnd.op (h : Rnd AA w0 w a ns F v ids) (hs : LSt AA w w' a ns F m ns') : ∃ F', Rnd AA w0 w' a ns' F' v ids ∧ ns'.length ≤ ns.length + m := by
  obtain ⟨F', h1, h2, h3⟩ := hs.ex
  refine ⟨F', ⟨h1, hs.canon, h.row.off h3 h.apart, fun b q => ?_, fun b q => ?_, h.below.trans (h3.below h.own h.below.size)⟩, hs.few⟩
  · rcases h2 b q with q | q
    · exact h.apart b q
    · intro e
      have := (World.ownsRow.lt h.row b e).2
      omega
  · rcases h2 b q with q | q
    · exact h.own b q
    · exact Nat.le_trans h.below.size q
include S in
theorem Rnd.alloc (h : Rnd AA w0 w a ns F v ids) (o : Obj) : Rnd AA w0 (w.alloc o) a ns F v ids :=
  ⟨S.next h.aa ((Below.refl _ _).alloc (Nat.le_refl _) o), h.canon, World.ownsRow.alloc h.row o, h.apart, h.own, h.below.alloc h.below.size o⟩
include S in
theorem Rnd.drewN (h : Rnd AA w0 w a ns F v ids) (q : Nat) : Rnd AA w0 (w.drewN q) a ns F v ids :=
  ⟨S.keep h.aa (fun _ _ => rfl), h.canon, h.row, h.apart, h.own, below_drewN' h.below q⟩
end
/- How long. -/
def LenW (ns : List Nd) (W4 W5 W3 : Nat) (x : Int) : Prop := LenB ns W4 W5 W3 x ∧ (kd ns x = 6 → LenB ns W4 W5 W3 (ka ns x))
section
variable {ns : List Nd} {W4 W5 W3 : Nat} {x y r : Int}
theorem LenW.mono {V4 V5 V3 : Nat} (h : LenW ns W4 W5 W3 x) (h4 : W4 ≤ V4) (h5 : W5 ≤ V5) (h3 : W3 ≤ V3) : LenW ns V4 V5 V3 x := ⟨h.1.mono h4 h5 h3, fun k => (h.2 k).mono h4 h5 h3⟩
end
end Go.Proofs.YthifbaacmohmnaaGreat
