/- Joined: LwMembers, LwOnce. -/
import Derived.Test.YthifbaacmohmnaaGreatMbb
import Derived.Test.YthifbaacmohmnaaGreatMbf
import Derived.Test.YthifbaacmohmnaaGreatMbd
import Derived.Test.YthifbaacmohmnaaGreatMbe
/- members of package linear: what an Or, an And is made of. -/
namespace Go.Proofs.YthifbaacmohmnaaGreat
open Go.RowKit
set_option linter.unusedSimpArgs false
set_option linter.unusedVariables false

theorem MemInv.swap {ns : List Nd} {k : Int} {l s T fd : List Int} {x y : Int} (h : MemInv ns k l s (T ++ [x, y]) fd) : MemInv ns k l s (T ++ [y, x]) fd := by
  have hm : ∀ z, z ∈ T ++ [y, x] ↔ z ∈ T ++ [x, y] := fun z => by
    rw [List.mem_append, List.mem_append]
    simp only [List.mem_cons, List.not_mem_nil, or_false]
    constructor
    · rintro (a | a | a)
      · exact Or.inl a
      · exact Or.inr (Or.inr a)
      · exact Or.inr (Or.inl a)
    · rintro (a | a | a)
      · exact Or.inl a
      · exact Or.inr (Or.inr a)
      · exact Or.inr (Or.inl a)
  refine ⟨h.nd, h.sin, fun z hz => h.tin z ((hm z).1 hz), h.fnd, h.ffr, h.leaf, fun x hx e => ?_, fun x hx => ?_, fun z hz => h.snd z ?_⟩
  · rw [hm, hm]; exact h.node x hx e
  · rw [hm]; exact h.all x hx
  · rw [← hm]; exact hz
theorem szq {w w' : World} {n B : Nat} (h : w.heap.size = n) (hb : Below B w w') : n ≤ w'.heap.size := h ▸ hb.size
theorem row_two (w : World) (x y : Int) (base : Nat) (hb : base ≤ w.heap.size) : IdRow (w.alloc (.cells #[.int .i64 x, .int .i64 y] 3)) base (.slice (some ⟨w.heap.size, 0, none⟩) 2 2) [x, y] :=
  ⟨rfl, .inr ⟨_, 2, _, rfl, hb, At.new _ _ _, Nat.le_refl _, by unfold maxLen; omega, rfl, rfl⟩⟩
section
variable {p : LP} {w : World} {ns : List Nd} {F : Nat → Prop} {many : Bool}
set_option maxRecDepth 100000 in
set_option maxHeartbeats 16000000 in
theorem lMembers (k : Int) (hk : k = 4 ∨ k = 5) (h : LW p w ns F many) (n : Nd) (hn : n.kind = k) (ha : isIn ns n.a) (hb : isIn ns n.b) :
    Calls Tryz.prog 95 #[.pointer (some ⟨p.gw, 0, none⟩), .agg n.cs.toArray] w fun e w' => ∃ v' ms, e = .returned v' ∧ IdRow w' w.heap.size v' ms ∧ ms.Nodup ∧ (∀ y, y ∈ ms ↔ y ∈ mem ns k n.a ∨ y ∈ mem ns k n.b) ∧ Below w.heap.size w w' := by
  have hmx := h.few
  have HW := Lib.hid h
  have HF := Lib.hid h.fine
  have HK := Lib.hid hk
  have HI : Hid (∀ x ∈ [n.b, n.a], isIn ns x) := Lib.hid (fun x hx => by
    rcases List.mem_cons.1 hx with rfl | hx
    · exact hb
    · rw [List.mem_singleton.1 hx]; exact ha)
  obtain ⟨gp, hgp⟩ := arenaMid.ptr h.ar
  have HP0 := Lib.hid hgp
  have HKn := Lib.hid hn
  obtain ⟨wq, hwq⟩ : ∃ wq, wq = w.alloc (.cells n.cs.toArray 61) := ⟨_, rfl⟩
  have HQ : Hid (Below w.heap.size w wq) := Lib.hid (by rw [hwq]; exact (Below.refl _ _).alloc (Nat.le_refl _) _)
  have HNb : Hid (At wq w.heap.size 61 n.cs.toArray) := Lib.hid (by rw [hwq]; exact At.new _ _ _)
  obtain ⟨w1, hw1⟩ : ∃ w1, w1 = (wq.alloc (.map #[] 0)).alloc (.cells #[.int .i64 n.b, .int .i64 n.a] 3) := ⟨_, rfl⟩
  have hqs : wq.heap.size = w.heap.size + 1 := by rw [hwq]; simp
  have HQs := Lib.hid hqs
  have HB2 : Hid (Below (w.heap.size + 1) wq w1) := Lib.hid (by rw [hw1, ← hqs]; exact ((Below.refl _ _).alloc (Nat.le_refl _) _).alloc (by simp) _)
  have HM2 : Hid (SeenAt w1 (w.heap.size + 1) 0 []) := Lib.hid (by rw [hw1, ← hqs]; exact (SeenAt.made wq).kept (Below.heap_alloc _ _ _ (by simp)))
  have HR1 : Hid (IdRow w1 (w.heap.size + 1 + 1) (.slice (some ⟨w.heap.size + 1 + 1, 0, none⟩) 2 2) [n.b, n.a]) := Lib.hid (by
    have := row_two (wq.alloc (.map #[] 0)) n.b n.a (wq.heap.size + 1) (by simp)
    rw [World.size_alloc, hqs] at this
    rw [hw1]; exact this)
  have HS1 : Hid (w.heap.size + 1 + 1 ≤ w1.heap.size) := Lib.hid (by rw [hw1]; simp; omega)
  have HM1 := Lib.hid hw1
  have hmm := @run_makeMap Tryz.prog
  obtain ⟨i0, hi0, hi1, hi2, hi3⟩ := info_parts info_intR
  have n5 : (wq.alloc (.map #[] 0)).cell? ⟨w.heap.size, 5, none⟩ = some (.int .i64 n.a) := ((HNb.out.alloc (.map #[] 0)).cell 5)
  have n6 : (wq.alloc (.map #[] 0)).cell? ⟨w.heap.size, 6, none⟩ = some (.int .i64 n.b) := ((HNb.out.alloc (.map #[] 0)).cell 6)
  rw [hwq] at n5 n6 hw1
  have HWq := Lib.hid hwq
  clear h hk hn ha hb hgp hwq hw1 hqs
  go_enter Tryz.func95, Tryz.ntmps95
  go_wp2_with fail
  rw [← HWq.out, ← HM1.out]
  clear n5 n6 hmm
  go_loopw [5, 7] (fun v7 v9 wr => ∃ (s T fd : List Int), Hid (MemInv ns k [n.b, n.a] s T fd) ∧ Hid (IdRow wr (w.heap.size + 1 + 1) v7 fd) ∧ Hid (IdRow wr (w.heap.size + 1 + 1) v9 T) ∧ Hid (v7.ownBlock = none ∨ v7.ownBlock ≠ v9.ownBlock) ∧ Hid (SeenAt wr (w.heap.size + 1) s.length s) ∧ Hid (Below (w.heap.size + 1) wq wr) ∧ Hid (w.heap.size + 1 + 1 ≤ wr.heap.size ∧ T.length ≤ 20000 + s.length ∧ fd.length ≤ s.length ∧ s.length ≤ ns.length)) (fun v7 v9 wr => 2 * unseen ns.length (seenB wr (w.heap.size + 1)) + lenV v9)
  case atStart => exact ⟨[], [n.b, n.a], [], Lib.hid (MemInv.start HI.out), Lib.hid (IdRow.nil _ _), HR1, Lib.hid (Or.inl rfl), HM2, HB2, Lib.hid ⟨HS1.out, by show 2 ≤ 20000 + 0; omega, Nat.le_refl _, Nat.zero_le _⟩⟩
  case round =>
    clear HR1 HB2 HM2 HS1 HM1
    obtain ⟨s, T, fd, HV, HR7, HR9, HAp, HS, HB, HZ⟩ := hrel
    rcases List.eq_nil_or_concat T with rfl | ⟨T', x, rfl⟩
    · obtain ⟨A9, c9, rfl⟩ := HR9.out.len
      have hb : (decide ((0 : Int) < (([] : List Int).length : Int))) = false := rfl
      go_wp2_with fail
      go_ret
      have hd := MemInv.done HF.out HK.out HV.out
      refine ⟨_, fd, rfl, HR7.out.base (Nat.le_trans (Nat.le_succ _) (Nat.le_succ _)), hd.1, fun y => ?_, HQ.out.trans (HB.out.mono (Nat.le_succ _))⟩
      rw [hd.2 y]
      constructor
      · rintro ⟨x, hx, hy⟩
        rcases List.mem_cons.1 hx with rfl | hx
        · exact Or.inr hy
        · rw [List.mem_singleton.1 hx] at hy; exact Or.inl hy
      · rintro (hy | hy)
        · exact ⟨n.a, by simp, hy⟩
        · exact ⟨n.b, by simp, hy⟩
    · rw [List.concat_eq_append] at HV HR9 HZ
      obtain ⟨pn, hp⟩ : ∃ pn, pn = T'.length := ⟨_, rfl⟩
      have hlen : (T' ++ [x]).length = pn + 1 := by rw [List.length_append, hp]; rfl
      obtain ⟨g9, cap9, e9, hc9⟩ := HR9.out.form (by rw [hlen]; omega)
      rw [hlen] at e9
      have hx9 := hc9 pn (by rw [hlen]; omega)
      rw [show (T' ++ [x])[pn]'(by rw [hlen]; omega) = x by simp [hp]] at hx9
      subst e9
      have HI9 := Lib.hid (HR9.out.init hp.symm)
      have hxi := HV.out.tin x (by simp)
      have HXi := Lib.hid hxi
      have hxI : I64 x := by unfold isIn at hxi; unfold I64; omega
      have hlk := HS.out.look hxI
      have HP := Lib.hid hp
      have HpB : Hid (pn + 1 ≤ 20000 + s.length ∧ s.length ≤ 20000) := Lib.hid (by have := HZ.out; rw [hlen] at this; omega)
      have hpz : (0 : Int) < (pn : Int) + 1 := by omega
      have hpn : (pn : Int) < (pn : Int) + 1 := by omega
      have hpb : pn + 1 ≤ 1000000 := by have := HpB.out; omega
      have HMu : Hid (∀ wq sq, SeenAt wq (w.heap.size + 1) sq.length sq → unseen ns.length (seenB wq (w.heap.size + 1)) = unseen ns.length (fun y => decide (y ∈ sq))) := Lib.hid (fun wq sq hq => unseen_is hq (by omega))
      have hcp : (pn : Int) ≤ (cap9 : Int) := by have := HI9.out.cap; omega
      clear hc9 hxi hp hlen
      by_cases hs : x ∈ s
      · rw [decide_eq_true hs] at hlk
        have HXs := Lib.hid hs
        clear hs
        have hal : Below wr.heap.size wr (wr.alloc (.cells #[] 111)) := (Below.refl _ _).alloc (Nat.le_refl _) _
        have HS2 := Lib.hid (HS.out.kept (hal.block _ HS.out.lt))
        have HAl := Lib.hid hal
        clear hal
        go_wp2_with fail
        refine ⟨⟨s, T', fd, Lib.hid (HV.out.skip HXs.out), Lib.hid (HR7.out.next HAl.out), Lib.hid (HI9.out.next HAl.out), HAp, HS2, Lib.hid (HB.out.trans (HAl.out.mono (szq HQs.out HB.out))), Lib.hid ⟨by have := HAl.out.size; have := HZ.out; omega, by have := HpB.out; have := HP.out; omega, HZ.out.2.2⟩⟩, ?_⟩
        rw [HMu.out _ _ HS2.out, HMu.out _ _ HS.out]
        show _ + pn < _ + (pn + 1)
        omega
      · rw [decide_eq_false hs] at hlk
        have HXs := Lib.hid hs
        clear hs
        have hal : Below wr.heap.size wr (wr.alloc (.cells #[] 111)) := (Below.refl _ _).alloc (Nat.le_refl _) _
        obtain ⟨w3, hup, hs3, hg3⟩ := (HS.out.kept (hal.block _ HS.out.lt)).store hxI (by have := HpB.out; omega)
        have HS3 := Lib.hid hs3
        have HG3 : Hid (wr.grownBy w3 (some (w.heap.size + 1))) := Lib.hid ⟨hg3.os.trans hal.os, hg3.tape.trans hal.tape, hg3.output.trans hal.output, Nat.le_trans hal.size hg3.size, fun b hb hn => (hg3.block b (Nat.lt_of_lt_of_le hb hal.size) hn).trans (hal.block b hb)⟩
        have hB3 : Below (w.heap.size + 1) wq w3 := ⟨HG3.out.os.trans HB.out.os, HG3.out.tape.trans HB.out.tape, HG3.out.output.trans HB.out.output, Nat.le_trans HB.out.size HG3.out.size, fun b hb => (HG3.out.block b (Nat.lt_of_lt_of_le hb (szq HQs.out HB.out)) (fun e => by injection e with e; omega)).trans (HB.out.block b hb)⟩
        have HB3 := Lib.hid hB3
        have HR73 : Hid (IdRow w3 (w.heap.size + 1 + 1) u5 fd) := Lib.hid (HR7.out.grown HG3.out (fun c e q => by injection e with e; have := (HR7.out.lt q).1; omega))
        have HI93 : Hid (IdRow w3 (w.heap.size + 1 + 1) (.slice (some ⟨g9, 0, none⟩) pn cap9) T') := Lib.hid (HI9.out.grown HG3.out (fun c e q => by injection e with e; have := (HI9.out.lt q).1; omega))
        have HLq := Lib.hid (HW.out.next (HQ.out.trans (hB3.mono (Nat.le_succ _))))
        have HN := arenaMid.nodeIn x HLq.out.ar hxI
        rw [HP0.out] at HN
        have HN := Lib.hid HN
        have a0 := HLq.out.cells.1
        rw [HP0.out] at a0
        have hdx : decide (0 ≤ x ∧ x < (ns.length : Int)) = true := decide_eq_true HXi.out
        have HB0 : Hid (At w3 w.heap.size 61 n.cs.toArray) := Lib.hid ((hB3.block _ (Nat.lt_succ_self _)).trans HNb.out)
        clear hal hs3 hg3 hB3
        go_wp2_with fail
        refine HN.out.mono ?_
        rintro e w4 ⟨u, rfl, hu, hb4⟩
        have hu := hu HXi.out
        rw [hdx]
        have HKx : Hid (kd ns x = u.kind ∧ ka ns x = u.a ∧ kb ns x = u.b) := Lib.hid ⟨by unfold kd; rw [← hu], by unfold ka; rw [← hu], by unfold kb; rw [← hu]⟩
        have HXb := Lib.hid (boxN_at w4 u)
        have HB0b : Hid (At (boxN w4 u) w.heap.size 61 n.cs.toArray) := Lib.hid (((hb4.trans ((boxN_next w4 u).mono hb4.size)).block _ HB0.out.lt).trans HB0.out)
        have k0 := (Nd.cells HB0b.out).1
        rw [HKn.out] at k0
        have hb5 := hb4.trans ((boxN_next w4 u).mono hb4.size)
        have HB5 := Lib.hid (HB3.out.trans (hb5.mono (szq HQs.out HB3.out)))
        have HZ5 : Hid (w.heap.size + 1 + 1 ≤ (boxN w4 u).heap.size) := Lib.hid (by have := HZ.out; have := HG3.out.size; have := hb5.size; omega)
        have HR75 := Lib.hid (HR73.out.next hb5)
        have HI95 := Lib.hid (HI93.out.next hb5)
        have HS5 := Lib.hid (HS3.out.kept (hb5.block _ HS3.out.lt))
        obtain ⟨c0, c1, c2, c3, c4, c5, c6, c7⟩ := Nd.cells HXb.out
        clear hu hb4 hb5 hdx hlk hup a0
        obtain ⟨w5, hw5⟩ : ∃ w5, w5 = boxN w4 u := ⟨_, rfl⟩
        have HW5 := Lib.hid hw5
        have hsz : s.length + 1 = (x :: s).length := rfl
        have hPl := HpB.out
        have hZ3 := HZ.out.2.2.1
        by_cases hk : u.kind = k
        · have HKk : Hid (kd ns x = k) := Lib.hid (HKx.out.1.trans hk)
          have hkb : (u.kind == k) = true := by rw [hk]; simp
          obtain ⟨w6, hw6⟩ : ∃ w6, w6 = (boxN w4 u).alloc (.cells #[.int .i64 u.b, .int .i64 u.a] 3) := ⟨_, rfl⟩
          have hb6 : Below (boxN w4 u).heap.size (boxN w4 u) w6 := by rw [hw6]; exact (Below.refl _ _).alloc (Nat.le_refl _) _
          have HB6 := Lib.hid (HB5.out.trans (hb6.mono (szq HQs.out HB5.out)))
          have HZ6 : Hid (w.heap.size + 1 + 1 ≤ w6.heap.size) := Lib.hid (Nat.le_trans HZ5.out hb6.size)
          have HR76 := Lib.hid (HR75.out.next hb6)
          have HRw := Lib.hid (HI95.out.next hb6)
          have HS6 := Lib.hid (HS5.out.kept (hb6.block _ HS5.out.lt))
          have HW6 := Lib.hid hw6
          rw [hw6] at HRw HZ6
          have hpT : T'.length ≤ 1000000 := by rw [← HP.out]; omega
          clear hk hw5 hw6 hb6
          go_wp2_with (first
            | (with_reducible show wpList _ _ _ ({ dst := none, op := .store _ _ _, type := _, pos := _, after := _, guard := _ } :: _) _ _
               refine wpList_store_row rfl 61 _ _ rfl w4.heap.size u.cs.toArray rfl rfl 61 Nd.zero.cs.toArray (At.new _ _ _) (by kernel_rfl) rfl (Nd.one u) ?_
               first | change wpList _ _ _ _ _ (boxN w4 u) | change Exit.then _ _ _ _ (boxN w4 u))
            | (at_builtin; go_loud (refine wpList_append_own_at _ rfl _ _ _ rfl (w.heap.size + 1 + 1) 3 i0 _ 1 8 Tryz.underlying80 hi0 hi1 hi2 hi3 rfl (by omega) (.slice (some ⟨g9, 0, none⟩) pn cap9) _ _ rfl HRw.out ⟨_, 0, none⟩ 2 2 [.int .i64 u.b, .int .i64 u.a] rfl rfl ?c1 ?c2 ?c3 ?c4 ?c5 ?_); go_loud (case c1 => exact World.news_of_block (At.new _ _ _)); go_loud (case c2 => simp [Value.oneCell']); go_loud (case c3 => unfold maxLen; omega); go_loud (case c4 => omega); go_loud (case c5 => exact HZ6.out); (intro v' w7 hown7 hg7 _ hat7))
            | fail)
          rw [← HW6.out] at hg7 hat7
          have hr9 : IdRow w7 (w.heap.size + 1 + 1) v' (T' ++ [u.b, u.a]) := by
            unfold IdRow idL
            have := hown7
            unfold idL at this
            rw [List.length_append, List.map_append]
            exact this
          have hap : u5.ownBlock = none ∨ u5.ownBlock ≠ v'.ownBlock := by
            rcases HAp.out with q | q
            · exact Or.inl q
            · rcases hat7 with z | z
              · rw [z]; exact Or.inr q
              · right
                rw [z]
                intro q2
                have := (HR76.out.lt q2).2
                omega
          have hr7 : IdRow w7 (w.heap.size + 1 + 1) u5 fd := HR76.out.grown hg7 (fun c e q => by
            rcases HAp.out with z | z
            · rw [z] at q; cases q
            · exact z (by rw [q]; exact e.symm))
          have hs7 : SeenAt w7 (w.heap.size + 1) (x :: s).length (x :: s) := HS6.out.kept (hg7.block _ HS6.out.lt (fun e => by have := (HI95.out.lt (c := (w.heap.size + 1)) e.symm).1; omega))
          have hb7 : Below (w.heap.size + 1) wq w7 := ⟨hg7.os.trans HB6.out.os, hg7.tape.trans HB6.out.tape, hg7.output.trans HB6.out.output, Nat.le_trans HB6.out.size hg7.size, fun b hb => (hg7.block b (Nat.lt_of_lt_of_le hb (szq HQs.out HB6.out)) (fun e => by have := (HI95.out.lt (c := b) e.symm).1; omega)).trans (HB6.out.block b hb)⟩
          have hv7 := HV.out.nodeStep HF.out HK.out HXs.out HKk.out
          rw [HKx.out.2.1, HKx.out.2.2] at hv7
          have hv7 := hv7.swap
          have hsl : (x :: s).length ≤ ns.length := nodup_in hv7.nd hv7.sin
          have hz7 : w.heap.size + 1 + 1 ≤ w7.heap.size := Nat.le_trans (by have := HZ6.out; rw [← HW6.out] at this; exact this) hg7.size
          obtain ⟨A9', c9', e9'⟩ := hr9.len
          refine ⟨⟨x :: s, T' ++ [u.b, u.a], fd, Lib.hid hv7, Lib.hid hr7, Lib.hid hr9, Lib.hid hap, Lib.hid hs7, Lib.hid hb7, Lib.hid ⟨hz7, by rw [List.length_append]; have := HpB.out; have := HP.out; simp; omega, by have := HZ.out; simp; omega, hsl⟩⟩, ?_⟩
          rw [HMu.out _ _ hs7, HMu.out _ _ HS.out]
          have hun := unseen_less (n := ns.length) HXi.out.1 HXi.out.2 HXs.out
          have hl9 : lenV v' = pn + 2 := by rw [e9']; show (T' ++ [u.b, u.a]).length = _; rw [List.length_append, ← HP.out]; rfl
          show _ + lenV v' < _ + (pn + 1)
          omega
        · have HKk : Hid (kd ns x ≠ k) := Lib.hid (fun q => hk (HKx.out.1.symm.trans q))
          have hkb := (int_ne hk).1
          obtain ⟨w6, hw6⟩ : ∃ w6, w6 = (boxN w4 u).alloc (.cells #[.int .i64 x] 3) := ⟨_, rfl⟩
          have hb6 : Below (boxN w4 u).heap.size (boxN w4 u) w6 := by rw [hw6]; exact (Below.refl _ _).alloc (Nat.le_refl _) _
          have HB6 := Lib.hid (HB5.out.trans (hb6.mono (szq HQs.out HB5.out)))
          have HZ6 : Hid (w.heap.size + 1 + 1 ≤ w6.heap.size) := Lib.hid (Nat.le_trans HZ5.out hb6.size)
          have HI96 := Lib.hid (HI95.out.next hb6)
          have HRw := Lib.hid (HR75.out.next hb6)
          have HR76 := HRw
          have HS6 := Lib.hid (HS5.out.kept (hb6.block _ HS5.out.lt))
          have HW6 := Lib.hid hw6
          rw [hw6] at HRw HZ6
          have hfl : fd.length ≤ 20000 := by have := HpB.out; omega
          clear hk hw5 hw6 hb6
          go_wp2_with (first
            | (with_reducible show wpList _ _ _ ({ dst := none, op := .store _ _ _, type := _, pos := _, after := _, guard := _ } :: _) _ _
               refine wpList_store_row rfl 61 _ _ rfl w4.heap.size u.cs.toArray rfl rfl 61 Nd.zero.cs.toArray (At.new _ _ _) (by kernel_rfl) rfl (Nd.one u) ?_
               first | change wpList _ _ _ _ _ (boxN w4 u) | change Exit.then _ _ _ _ (boxN w4 u))
            | (at_builtin
               refine wpList_append_own_at _ rfl _ _ _ rfl (w.heap.size + 1 + 1) 3 i0 _ 1 8 Tryz.underlying80 hi0 hi1 hi2 hi3 rfl (by omega) u5 _ _ rfl HRw.out ⟨_, 0, none⟩ 1 1 [.int .i64 x] rfl rfl (cell_one_new _ _ _) ?c2 ?c3 ?c4 ?c5 ?_
               case c2 => simp [Value.oneCell']
               case c3 => unfold maxLen; omega
               case c4 => omega
               case c5 => exact HZ6.out
               intro v' w7 hown7 hg7 _ hat7)
            | fail)
          rw [← HW6.out] at hg7 hat7
          have hr7 : IdRow w7 (w.heap.size + 1 + 1) v' (fd ++ [x]) := by
            unfold IdRow idL
            have := hown7
            unfold idL at this
            simpa using this
          have hap : v'.ownBlock = none ∨ v'.ownBlock ≠ (Value.slice (some ⟨g9, 0, none⟩) pn cap9).ownBlock := by
            rcases hat7 with z | z
            · rw [z]; exact HAp.out
            · right
              rw [z]
              intro q2
              have := (HI96.out.lt q2.symm).2
              omega
          have hr9 : IdRow w7 (w.heap.size + 1 + 1) (.slice (some ⟨g9, 0, none⟩) pn cap9) T' := HI96.out.grown hg7 (fun c e q => by
            rcases HAp.out with z | z
            · rw [z] at e; cases e
            · exact z (by rw [e]; exact q.symm))
          have hs7 : SeenAt w7 (w.heap.size + 1) (x :: s).length (x :: s) := HS6.out.kept (hg7.block _ HS6.out.lt (fun e => by have := (HR76.out.lt (c := (w.heap.size + 1)) e.symm).1; omega))
          have hb7 : Below (w.heap.size + 1) wq w7 := ⟨hg7.os.trans HB6.out.os, hg7.tape.trans HB6.out.tape, hg7.output.trans HB6.out.output, Nat.le_trans HB6.out.size hg7.size, fun b hb => (hg7.block b (Nat.lt_of_lt_of_le hb (szq HQs.out HB6.out)) (fun e => by have := (HR76.out.lt (c := b) e.symm).1; omega)).trans (HB6.out.block b hb)⟩
          have hv7 := HV.out.leafStep HXs.out HKk.out
          have hsl : (x :: s).length ≤ ns.length := nodup_in hv7.nd hv7.sin
          have hz7 : w.heap.size + 1 + 1 ≤ w7.heap.size := Nat.le_trans (by have := HZ6.out; rw [← HW6.out] at this; exact this) hg7.size
          refine ⟨⟨x :: s, T', fd ++ [x], Lib.hid hv7, Lib.hid hr7, Lib.hid hr9, Lib.hid hap, Lib.hid hs7, Lib.hid hb7, Lib.hid ⟨hz7, by have := HpB.out; have := HP.out; simp; omega, by have := HZ.out; simp; omega, hsl⟩⟩, ?_⟩
          rw [HMu.out _ _ hs7, HMu.out _ _ HS.out]
          have hun := unseen_less (n := ns.length) HXi.out.1 HXi.out.2 HXs.out
          show _ + pn < _ + (pn + 1)
          omega
end

end Go.Proofs.YthifbaacmohmnaaGreat

/- once of package linear. -/
namespace Go.Proofs.YthifbaacmohmnaaGreat
open Go.RowKit
set_option linter.unusedSimpArgs false
set_option linter.unusedVariables false

theorem LAns.many {p : LP} {w w1 : World} {ns : List Nd} {F : Nat → Prop} {many : Bool} {R R' : List Nd → Fm → Prop} {e : Ending} (hm : many = true) (h : LAns p w ns F many R e w1) : LAns p w ns F many R' e w1 := by
  obtain ⟨v, f, ns1, F1, many1, h0, h1, h2, h3, h4⟩ := h
  exact ⟨v, f, ns1, F1, many1, h0, h1, h2, h3, fun q => by rw [h1.mono hm] at q; cases q⟩
theorem Keeps.zero {X : Nat → Prop} {w : World} : Keeps X w (.slice none 0 0) [] := fun w' _ => ⟨none, 0, rfl, Nat.le_refl _, by omega, fun q => absurd q (Nat.lt_irrefl _)⟩
theorem IdRow.keepsL {X : Nat → Prop} {w : World} {base : Nat} {v : Value} {l : List Int} (h : IdRow w base v l) (hX : ∀ b, X b → b < base) (hI : ∀ x ∈ l, IsI x) (hn : l.length ≤ 20000) : KeepsL X w v l := fun w' ho => by
  obtain ⟨h1, h2⟩ := id h
  rcases h2 with ⟨rfl, q⟩ | ⟨g, cap, cur, rfl, hb, hc, r1, r2, r3, r4⟩
  · have hl := List.eq_nil_of_length_eq_zero q
    subst hl
    exact ⟨none, 0, rfl, Nat.le_refl _, (by omega), (fun x hx => by cases hx), fun q => absurd q (Nat.lt_irrefl _)⟩
  · obtain ⟨lt1, lt2⟩ := World.ownsRow.lt h g rfl
    have hcg : w'.heap[g]? = some (.cells cur 3 (0, 0)) := (ho.block g lt2 (fun q => by have := hX g q; omega)).trans hc
    have hca : cap ≤ 9223372036854775807 := by unfold maxLen at r2; omega
    refine ⟨_, _, rfl, r1, hca, hI, fun h0 => ⟨g, 0, rfl, Nat.lt_of_lt_of_le lt2 ho.size, fun j hj => ?_⟩⟩
    obtain ⟨g', cap', e', hcell⟩ := IdRow.form h h0
    injection e' with e1 _ _
    injection e1 with e1
    injection e1 with e1 _ _
    subst e1
    have := hcell j hj
    rw [Nat.zero_add, inAt_lt hj]
    unfold World.cell? at this ⊢
    rw [hcg]
    rw [hc] at this
    exact this
/-- How far down a formula's node is asked for. -/
def rk (ns : List Nd) (x : Int) : Nat := if kd ns x = 6 then 2 * (ka ns x).toNat + 1 else 2 * x.toNat
theorem rk_le {ns : List Nd} (hf : FineN ns) {x : Int} (hx : isIn ns x) : rk ns x ≤ 2 * x.toNat := by
  unfold rk
  by_cases k : kd ns x = 6
  · rw [if_pos k]
    obtain ⟨a0, a1⟩ := in_one hf hx (by omega)
    unfold isIn at a0 hx
    omega
  · rw [if_neg k]; omega
section
variable {p : LP} {w : World} {ns : List Nd} {F : Nat → Prop} {many : Bool}
theorem LW.storeFo (h : LW p w ns F many) {x : Int} (hx : isIn ns x) {v : Value} {f : Fm} (hk : Keeps (XY p F) w v f) (hi : FmIn (Ls ns) f) (hR : many = false → OfR ns x ns f) : ∃ w', (Instr.mapUpdate 98 (.map (some p.mf)) (.int .i64 x) v).run Tryz.prog w = .ok () w' ∧ Grow p w ns F many w' ns F many := by
  obtain ⟨s, get, k1, k2⟩ := h.fo.ex
  have hmx := h.few
  have hxI : I64 x := by unfold isIn at hx; unfold I64; omega
  have hsl := nodup_in (n := ns.length) k1.nodup (fun z hz => (k2 z hz).1)
  obtain ⟨w', r1, r2, r3⟩ := k1.store hxI v (by omega)
  have ho := h.off1 r3 (Or.inr (Or.inr (Or.inl rfl)))
  obtain ⟨d1, d2, d3, d4, d5, d6⟩ := h.d
  obtain ⟨l1, l2, l3, l4⟩ := h.lts
  have hb : ∀ b, b < w.heap.size → b ≠ p.mf → w'.heap[b]? = w.heap[b]? := fun b h1 h2 => r3.block b h1 (fun e => by injection e with e; exact h2 e)
  obtain ⟨s3, n1, n2⟩ := h.nu
  have hnew : Kept (XY p F) w' p.mf ns many (fun x f => OfR ns x ns f) := ⟨_, _, r2, fun y hy => by
    by_cases e : y = x
    · subst e
      exact ⟨hx, f, by rw [if_pos rfl]; exact hk.step ho.xy (fun b q => Or.inl q), hi, hR⟩
    · have hys : y ∈ s := by
        by_cases e2 : x ∈ s
        · rw [if_pos e2] at hy; exact hy
        · rw [if_neg e2] at hy; exact (List.mem_cons.1 hy).resolve_left e
      obtain ⟨q1, g, q2, q3, q4⟩ := k2 y hys
      exact ⟨q1, g, by rw [if_neg e]; exact q2.step ho.xy (fun b q => Or.inl q), q3, q4⟩⟩
  exact ⟨w', r1, ⟨[], (List.append_nil _).symm⟩, ⟨h.ar.keep (fun b q => hb b (h.ar.low b q) (fun e => h.out.2.1 (by rw [← e]; exact q))), (hb _ l1 d1).trans h.box, hnew, h.le.same (hb _ l3 (fun e => d4 e.symm)) ho.xy, ⟨s3, n1.kept (hb _ l4 (fun e => d5 e.symm)), n2⟩, h.d, h.out, h.b8, fun b q => Nat.lt_of_lt_of_le (h.ylow b q) ho.size⟩, fun b q => Or.inl q, ho, id⟩
set_option maxRecDepth 100000 in
set_option maxHeartbeats 4000000 in
theorem lOnceFo (id : Int) (hid : I64 id) (h : LW p w ns F many) (hin : isIn ns id ∨ (many = true ∧ ¬ isIn ns id)) (hof : many = false → Calls Tryz.prog 62 #[.pointer (some ⟨p.gw, 0, none⟩), .int .i64 id] w (LAns p w ns F many fun ms f => OfR ns id ms f)) :
    Calls Tryz.prog 61 #[.pointer (some ⟨p.gw, 0, none⟩), .map (some p.mf), .int .i64 id, .func (.func 62) #[.pointer (some ⟨p.gw, 0, none⟩)] #[]] w (LAns p w ns F many fun ms f => OfR ns id ms f) := by
  obtain ⟨s, get, k1, k2⟩ := h.fo.ex
  have hlk := k1.look hid
  have HW := Lib.hid h
  have c7 := h.cells.2.2.2.2.2.2.2
  by_cases hs : id ∈ s
  · obtain ⟨hi, f, hk, hfi, hR⟩ := k2 id hs
    obtain ⟨A, c, hv⟩ := hk.at
    rw [if_pos hs, decide_eq_true hs, hv] at hlk
    rw [hv] at hk
    have HK := Lib.hid hk
    have HI := Lib.hid hfi
    have HR := Lib.hid hR
    clear h hin hof k1 k2 hs hi hv hk hfi hR
    go_enter Tryz.func61, Tryz.ntmps61
    go_wp2_with fail
    go_ret
    exact LAns.done (Grow.refl HW.out) HK.out HI.out (fun q => HR.out q)
  rw [if_neg hs, decide_eq_false hs] at hlk
  cases many
  · have HIn : Hid (isIn ns id) := Lib.hid (hin.resolve_right (fun q => by cases q.1))
    have HC := Lib.hid (hof rfl)
    clear h hin hof k1 k2 hs
    go_enter Tryz.func61, Tryz.ntmps61
    go_wp2_with fail
    refine HC.out.mono ?_
    rintro e w3 ⟨v3, f, ns3, F3, many3, rfl, hg3, hk3, hi3, hd3⟩
    obtain ⟨A3, c3, hv3⟩ := hk3.at
    subst hv3
    obtain ⟨w4, hr4, hg4⟩ := hg3.lw.storeFo (hg3.isIn HIn.out) hk3 hi3 (fun q => by
      have h1 := hd3 q
      obtain ⟨m, rfl⟩ := hg3.more
      unfold OfR at h1 ⊢
      rw [ndTv_up HIn.out]
      exact h1)
    have HG4 := Lib.hid (hg3.trans hg4)
    have HK4 := Lib.hid (hk3.grow hg4)
    have HI4 := Lib.hid hi3
    have HD4 := Lib.hid hd3
    clear hg3 hk3 hi3 hd3 hg4
    go_wp2_with fail
    go_ret
    exact LAns.done HG4.out HK4.out HI4.out HD4.out
  · clear h hin hof k1 k2 hs
    go_enter Tryz.func61, Tryz.ntmps61
    go_wp2_with fail
    go_ret
    exact LAns.done (Grow.refl HW.out) Keeps.zero (FmIn.nil _) (fun q => by cases q)
set_option maxRecDepth 100000 in
set_option maxHeartbeats 4000000 in
theorem lFormulaAt (id : Int) (hid : I64 id) (h : LW p w ns F many) (hin : isIn ns id ∨ (many = true ∧ ¬ isIn ns id)) (hof : many = false → Calls Tryz.prog 62 #[.pointer (some ⟨p.gw, 0, none⟩), .int .i64 id] w (LAns p w ns F many fun ms f => OfR ns id ms f)) :
    Calls Tryz.prog 27 #[.pointer (some ⟨p.gw, 0, none⟩), .int .i64 id] w (LAns p w ns F many fun ms f => OfR ns id ms f) := by
  have HC := Lib.hid (lOnceFo id hid h hin hof)
  have cm := h.cells.2.2.2.1
  clear h hin hof
  go_enter Tryz.func27, Tryz.ntmps27
  go_wp2_with fail
  refine HC.out.mono ?_
  rintro e w3 ⟨v3, f, ns3, F3, many3, rfl, hg3, hk3, hi3, hd3⟩
  obtain ⟨A3, c3, hv3⟩ := hk3.at
  subst hv3
  have HG := Lib.hid hg3
  have HK := Lib.hid hk3
  have HI := Lib.hid hi3
  have HD := Lib.hid hd3
  clear hg3 hk3 hi3 hd3
  go_wp2_with fail
  go_ret
  exact LAns.done HG.out HK.out HI.out HD.out
theorem LW.storeLe (h : LW p w ns F many) {x : Int} (hx : isIn ns x) {v : Value} {f : Fm} (hk : Keeps (XY p F) w v f) (hi : FmIn (Ls ns) f) (hR : many = false → LeftR ns x p.b p.bt ns f) : ∃ w', (Instr.mapUpdate 98 (.map (some p.ml)) (.int .i64 x) v).run Tryz.prog w = .ok () w' ∧ Grow p w ns F many w' ns F many := by
  obtain ⟨s, get, k1, k2⟩ := h.le.ex
  have hmx := h.few
  have hxI : I64 x := by unfold isIn at hx; unfold I64; omega
  have hsl := nodup_in (n := ns.length) k1.nodup (fun z hz => (k2 z hz).1)
  obtain ⟨w', r1, r2, r3⟩ := k1.store hxI v (by omega)
  have ho := h.off1 r3 (Or.inr (Or.inr (Or.inr (Or.inl rfl))))
  obtain ⟨d1, d2, d3, d4, d5, d6⟩ := h.d
  obtain ⟨l1, l2, l3, l4⟩ := h.lts
  have hb : ∀ b, b < w.heap.size → b ≠ p.ml → w'.heap[b]? = w.heap[b]? := fun b h1 h2 => r3.block b h1 (fun e => by injection e with e; exact h2 e)
  obtain ⟨s3, n1, n2⟩ := h.nu
  have hnew : Kept (XY p F) w' p.ml ns many (fun x f => LeftR ns x p.b p.bt ns f) := ⟨_, _, r2, fun y hy => by
    by_cases e : y = x
    · subst e
      exact ⟨hx, f, by rw [if_pos rfl]; exact hk.step ho.xy (fun b q => Or.inl q), hi, hR⟩
    · have hys : y ∈ s := by
        by_cases e2 : x ∈ s
        · rw [if_pos e2] at hy; exact hy
        · rw [if_neg e2] at hy; exact (List.mem_cons.1 hy).resolve_left e
      obtain ⟨q1, g, q2, q3, q4⟩ := k2 y hys
      exact ⟨q1, g, by rw [if_neg e]; exact q2.step ho.xy (fun b q => Or.inl q), q3, q4⟩⟩
  exact ⟨w', r1, ⟨[], (List.append_nil _).symm⟩, ⟨h.ar.keep (fun b q => hb b (h.ar.low b q) (fun e => h.out.2.2.1 (by rw [← e]; exact q))), (hb _ l1 d2).trans h.box, h.fo.same (hb _ l2 d4) ho.xy, hnew, ⟨s3, n1.kept (hb _ l4 (fun e => d6 e.symm)), n2⟩, h.d, h.out, h.b8, fun b q => Nat.lt_of_lt_of_le (h.ylow b q) ho.size⟩, fun b q => Or.inl q, ho, id⟩
set_option maxRecDepth 100000 in
set_option maxHeartbeats 4000000 in
theorem lOnceLe (id : Int) (hid : I64 id) (h : LW p w ns F many) (hin : isIn ns id ∨ (many = true ∧ ¬ isIn ns id)) (hof : many = false → Calls Tryz.prog 77 #[.pointer (some ⟨p.gw, 0, none⟩), .int .i64 id] w (LAns p w ns F many fun ms f => LeftR ns id p.b p.bt ms f)) :
    Calls Tryz.prog 61 #[.pointer (some ⟨p.gw, 0, none⟩), .map (some p.ml), .int .i64 id, .func (.func 77) #[.pointer (some ⟨p.gw, 0, none⟩)] #[]] w (LAns p w ns F many fun ms f => LeftR ns id p.b p.bt ms f) := by
  obtain ⟨s, get, k1, k2⟩ := h.le.ex
  have hlk := k1.look hid
  have HW := Lib.hid h
  have c7 := h.cells.2.2.2.2.2.2.2
  by_cases hs : id ∈ s
  · obtain ⟨hi, f, hk, hfi, hR⟩ := k2 id hs
    obtain ⟨A, c, hv⟩ := hk.at
    rw [if_pos hs, decide_eq_true hs, hv] at hlk
    rw [hv] at hk
    have HK := Lib.hid hk
    have HI := Lib.hid hfi
    have HR := Lib.hid hR
    clear h hin hof k1 k2 hs hi hv hk hfi hR
    go_enter Tryz.func61, Tryz.ntmps61
    go_wp2_with fail
    go_ret
    exact LAns.done (Grow.refl HW.out) HK.out HI.out (fun q => HR.out q)
  rw [if_neg hs, decide_eq_false hs] at hlk
  cases many
  · have HIn : Hid (isIn ns id) := Lib.hid (hin.resolve_right (fun q => by cases q.1))
    have HC := Lib.hid (hof rfl)
    clear h hin hof k1 k2 hs
    go_enter Tryz.func61, Tryz.ntmps61
    go_wp2_with fail
    refine HC.out.mono ?_
    rintro e w3 ⟨v3, f, ns3, F3, many3, rfl, hg3, hk3, hi3, hd3⟩
    obtain ⟨A3, c3, hv3⟩ := hk3.at
    subst hv3
    obtain ⟨w4, hr4, hg4⟩ := hg3.lw.storeLe (hg3.isIn HIn.out) hk3 hi3 (fun q => by
      have h1 := hd3 q
      obtain ⟨m, rfl⟩ := hg3.more
      unfold LeftR at h1 ⊢
      rw [ndTv_up HIn.out]
      exact h1)
    have HG4 := Lib.hid (hg3.trans hg4)
    have HK4 := Lib.hid (hk3.grow hg4)
    have HI4 := Lib.hid hi3
    have HD4 := Lib.hid hd3
    clear hg3 hk3 hi3 hd3 hg4
    go_wp2_with fail
    go_ret
    exact LAns.done HG4.out HK4.out HI4.out HD4.out
  · clear h hin hof k1 k2 hs
    go_enter Tryz.func61, Tryz.ntmps61
    go_wp2_with fail
    go_ret
    exact LAns.done (Grow.refl HW.out) Keeps.zero (FmIn.nil _) (fun q => by cases q)
set_option maxRecDepth 100000 in
set_option maxHeartbeats 4000000 in
theorem lLeftAt (id : Int) (hid : I64 id) (h : LW p w ns F many) (hin : isIn ns id ∨ (many = true ∧ ¬ isIn ns id)) (hof : many = false → Calls Tryz.prog 77 #[.pointer (some ⟨p.gw, 0, none⟩), .int .i64 id] w (LAns p w ns F many fun ms f => LeftR ns id p.b p.bt ms f)) :
    Calls Tryz.prog 44 #[.pointer (some ⟨p.gw, 0, none⟩), .int .i64 id] w (LAns p w ns F many fun ms f => LeftR ns id p.b p.bt ms f) := by
  have HC := Lib.hid (lOnceLe id hid h hin hof)
  have cm := h.cells.2.2.2.2.1
  clear h hin hof
  go_enter Tryz.func44, Tryz.ntmps44
  go_wp2_with fail
  refine HC.out.mono ?_
  rintro e w3 ⟨v3, f, ns3, F3, many3, rfl, hg3, hk3, hi3, hd3⟩
  obtain ⟨A3, c3, hv3⟩ := hk3.at
  subst hv3
  have HG := Lib.hid hg3
  have HK := Lib.hid hk3
  have HI := Lib.hid hi3
  have HD := Lib.hid hd3
  clear hg3 hk3 hi3 hd3
  go_wp2_with fail
  go_ret
  exact LAns.done HG.out HK.out HI.out HD.out
end

end Go.Proofs.YthifbaacmohmnaaGreat
