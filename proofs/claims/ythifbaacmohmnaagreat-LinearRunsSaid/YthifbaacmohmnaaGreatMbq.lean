/- Joined: LwUndo, LwOver, LwOuter, LwIdx. -/
import Derived.Test.YthifbaacmohmnaaGreatMbp
import Derived.StillTailTactics
import Derived.Test.YthifbaacmohmnaaGreatMat
import Derived.Deep.RegionHeld3
import Derived.Test.YthifbaacmohmnaaGreatMaz
/- undo, end of package linear. -/
namespace Go.Proofs.YthifbaacmohmnaaGreat
open Go.RowKit
set_option linter.unusedSimpArgs false
set_option linter.unusedVariables false

theorem put_take {ns : List Nd} (hf : FineN ns) {j : Nat} (hj : j < ns.length) : putS (ns.take j) (ndAt ns j) = ns.take (j + 1) := by
  have hl : (ns.take j).length = j := by rw [List.length_take]; omega
  have hr := (hf.1 j hj).1
  unfold putS
  rw [hl, if_pos hr, if_neg ?_, ndAt_lt hj, List.take_succ_eq_append_getElem hj]
  intro hlt
  have hr2 : (ndAt ns j).right (ns.take j).length = true := by rw [hl]; exact hr
  have h1 := findN_of hr2 (by rw [hl]; exact hlt)
  have h2 : ∀ k, k < j → ndAt (ns.take j) k = ndAt ns k := fun k hk => by
    unfold ndAt
    rw [List.getElem?_take_of_lt hk]
  rw [h2 _ hlt] at h1
  have := hf.2 _ _ (by omega) hj h1
  omega
theorem FineN.pre {ns m : List Nd} (h : FineN (ns ++ m)) : FineN ns := by
  have he : ∀ j, j < ns.length → ndAt (ns ++ m) j = ndAt ns j := fun j hj => by unfold ndAt; rw [List.getElem?_append_left hj]
  have hl : ∀ j, j < ns.length → j < (ns ++ m).length := fun j hj => by rw [List.length_append]; omega
  refine ⟨fun j hj => ?_, fun i j hi hj e => h.2 i j (hl i hi) (hl j hj) (by rw [he i hi, he j hj]; exact e)⟩
  have := h.1 j (hl j hj)
  rwa [he j hj] at this
theorem below_of_off {w0 w w' : World} {G : Nat → Prop} (hb : Below w0.heap.size w0 w) (ho : OffF G w w') (hG : ∀ b, G b → w0.heap.size ≤ b) : Below w0.heap.size w0 w' :=
  ⟨ho.os.trans hb.os, ho.tape.trans hb.tape, ho.output.trans hb.output, Nat.le_trans hb.size ho.size, fun b hlt => (ho.block b (Nat.lt_of_lt_of_le hlt hb.size) (fun q => by have := hG b q; omega)).trans (hb.block b hlt)⟩
theorem set2_other (w : World) (g b : Nat) (u v : Value) (h : b ≠ g) : ((w.setCell ⟨g, 0, none⟩ u).setCell ⟨g, 1, none⟩ v).heap[b]? = w.heap[b]? := (heap_setCell_other _ _ b _ h).trans (heap_setCell_other _ _ b _ h)
/-- The arena as it was, in its own place. -/
theorem arena_moved {w : World} {gp g2 : Nat} {ns ns' : List Nd} {F G : Nat → Prop} {m m2 : Option Nat} {v v2 : Value} (h : AT w (.pointer (some ⟨gp, 0, none⟩)) ns' F gp m v) (h2 : AT w (.pointer (some ⟨g2, 0, none⟩)) ns G g2 m2 v2) (hG : ∀ b, G b → b ≠ gp) :
    AT ((w.setCell ⟨gp, 0, none⟩ v2).setCell ⟨gp, 1, none⟩ (.map m2)) (.pointer (some ⟨gp, 0, none⟩)) ns (fun b => b = gp ∨ m2 = some b ∨ v2.ownBlock = some b) gp m2 v2 := by
  have h3 : AT ((w.setCell ⟨gp, 0, none⟩ v2).setCell ⟨gp, 1, none⟩ (.map m2)) (.pointer (some ⟨g2, 0, none⟩)) ns G g2 m2 v2 := h2.keep (fun b q => set2_other w gp b _ _ (hG b q))
  exact ⟨rfl, (At.set (At.set h.box 0 v2) 1 (.map m2) : At _ gp 69 _), h3.row, h3.ids, h3.fine, h3.max, ⟨fun e => hG gp ((h2.own gp).2 (Or.inr (Or.inl e))) rfl, fun e => hG gp ((h2.own gp).2 (Or.inr (Or.inr e))) rfl, h3.apart.2.2⟩, fun b => Iff.rfl⟩
/-- What undo does. -/
def UndoPost (p : LP) (w : World) (ns : List Nd) (F : Nat → Prop) (e : Ending) (w' : World) : Prop := e = .returned (.tuple #[]) ∧ ∃ F', AA w' p.a ns F' ∧ (∀ b, F' b → F b ∨ w.heap.size ≤ b) ∧ OffF F w w'
section
variable {p : LP} {w : World} {ns m : List Nd} {F : Nat → Prop} {many : Bool}
set_option maxRecDepth 100000 in
set_option maxHeartbeats 8000000 in
theorem lUndo (h : LW p w (ns ++ m) F many) (hbf : p.before = ns.length) : Calls Tryz.prog 60 #[.pointer (some ⟨p.gw, 0, none⟩)] w (UndoPost p w ns F) := by
  have hfw := h.few
  rw [List.length_append] at hfw
  obtain ⟨gp, hgp⟩ := arenaMid.ptr h.ar
  have HW := Lib.hid h
  have HP := Lib.hid hgp
  have HLen : Hid (∀ q : Nat, Calls Tryz.prog 9 #[.pointer (some ⟨gp, 0, none⟩)] (w.drewN q) fun e w' => e = .returned (.int .i64 ((ns.length : Int) + m.length)) ∧ ∃ k, w' = w.drewN k) := Lib.hid (fun q => by
    have := arenaMid.len (h.ar.drewN q)
    rw [hgp] at this
    refine this.mono (fun e w' z => ⟨?_, q, z.2⟩)
    rw [z.1, List.length_append]
    simp)
  obtain ⟨c0, _, _, _, _, _, c6, _⟩ := h.cells
  rw [hgp] at c0
  rw [hbf] at c6
  have HFi := Lib.hid h.fine.pre
  have hI64 : ((ns.length : Int) + m.length) ≤ 20000 := by omega
  clear h hgp
  go_enter Tryz.func60, Tryz.ntmps60
  go_wp2_with fail
  by_cases hm : m.length = 0
  · have hm0 : m = [] := List.eq_nil_of_length_eq_zero hm
    have hz : (((ns.length : Int) + m.length) == (ns.length : Int)) = true := by rw [hm]; simp
    have hz2 : ((ns.length : Int) + m.length) = (ns.length : Int) := by omega
    have hz3 : decide (((ns.length : Int) + m.length) = (ns.length : Int)) = true := decide_eq_true hz2
    have HM := Lib.hid hm0
    clear hm hm0
    go_quiet (exact HLen.out _)
    go_wp2_with fail
    go_end0
    refine ⟨rfl, F, ?_, fun b q => Or.inl q, OffF.of (below_drewN' (Below.refl _ _) _)⟩
    have := HW.out.ar
    rw [HM.out, List.append_nil] at this
    exact this.drewN _
  · have hz : (((ns.length : Int) + m.length) == (ns.length : Int)) = false := (int_ne (by omega)).1
    have hz2 : ¬ ((ns.length : Int) + m.length) = (ns.length : Int) := by omega
    have hz3 : decide (((ns.length : Int) + m.length) = (ns.length : Int)) = false := decide_eq_false hz2
    clear hm
    go_quiet (exact HLen.out _)
    obtain ⟨wd, hwd⟩ : ∃ wd, wd = w.drewN nq := ⟨_, rfl⟩
    have HBd : Hid (Below w.heap.size w wd) := Lib.hid (by rw [hwd]; exact below_drewN' (Below.refl _ _) _)
    have HWd : Hid (wd.heap = w.heap) := Lib.hid (by rw [hwd]; rfl)
    have d0 : wd.cell? ⟨p.gw, 0, none⟩ = some (.pointer (some ⟨gp, 0, none⟩)) := by rw [hwd]; exact c0
    have d6 : wd.cell? ⟨p.gw, 6, none⟩ = some (.int .i64 (ns.length : Int)) := by rw [hwd]; exact c6
    rw [← hwd]
    clear c0 c6 hwd hz hz2 hz3 HLen
    have HWL := Lib.hid (HW.out.next HBd.out)
    go_wp2_with fail
    refine (aNew wd).mono ?_
    rintro e w1 ⟨a2, G0, rfl, hA0, hG0, hb1⟩
    obtain ⟨g2, rfl⟩ := arenaMid.ptr hA0
    have HA0 := Lib.hid hA0
    have HG0 := Lib.hid hG0
    have HB1 := Lib.hid hb1
    have e6 : w1.cell? ⟨p.gw, 6, none⟩ = some (.int .i64 (ns.length : Int)) := by
      have := (HWL.out.next hb1).cells.2.2.2.2.2.2.1
      rwa [hbf] at this
    clear hA0 hG0 hb1 d0 d6
    go_wp2_with fail
    go_loopw [21] (fun v wr => ∃ (j : Nat) (G : Nat → Prop), j ≤ ns.length ∧ v = .int .i64 j ∧ Hid (AA wr (.pointer (some ⟨g2, 0, none⟩)) (ns.take j) G) ∧ Hid (∀ b, G b → wd.heap.size ≤ b) ∧ Hid (Below wd.heap.size wd wr)) (fun v _ => ns.length - (intOf v).toNat)
    case atStart => exact ⟨0, G0, Nat.zero_le _, rfl, Lib.hid (by rw [List.take_zero]; exact HA0.out), HG0, HB1⟩
    case round =>
      clear HA0 HG0 HB1 e6
      obtain ⟨j, G, hj, rfl, HA, HG, HB⟩ := hrel
      have HLr := Lib.hid (HWL.out.next HB.out)
      have c0 := HLr.out.cells.1
      rw [HP.out] at c0
      by_cases hlt : j < ns.length
      · have h1 : (0 : Int) ≤ (j : Int) := by omega
        have h2 : (j : Int) < (ns.length : Int) := by omega
        have hji : isIn (ns ++ m) (j : Int) := by unfold isIn; rw [List.length_append]; omega
        have HN := Lib.hid (arenaMid.node (j : Int) HLr.out.ar (by unfold I64; omega))
        rw [show decide ((0 : Int) ≤ (j : Int) ∧ (j : Int) < ((ns ++ m).length : Int)) = true from decide_eq_true hji, HP.out] at HN
        have HJi := Lib.hid hji
        clear hji
        go_wp2_with fail
        refine HN.out.mono ?_
        rintro e w3 ⟨u, rfl, hu, hb3, _⟩
        have hu := hu HJi.out
        have HU : Hid (u = ndAt ns j) := Lib.hid (by
          rw [hu]
          unfold ndAt
          rw [show ((j : Nat) : Int).toNat = j from rfl, List.getElem?_append_left hlt])
        have HXb := Lib.hid (boxN_at w3 u)
        have hone := Nd.one u
        have hbb := hb3.trans ((boxN_next w3 u).mono hb3.size)
        have HBb : Hid (Below wd.heap.size wd (boxN w3 u)) := Lib.hid (HB.out.trans (hbb.mono HB.out.size))
        have HAb := Lib.hid (HA.out.next hbb)
        have hfit : NdFit u := by rw [HU.out]; exact (HFi.out.1 j hlt).2
        have HPu := Lib.hid (arenaMid.put u HAb.out hfit (by rw [List.length_take]; omega))
        have HTk : Hid (putS (ns.take j) u = ns.take (j + 1)) := Lib.hid (by rw [HU.out]; exact put_take HFi.out hlt)
        rw [HTk.out] at HPu
        clear hu hb3 hbb hfit HN
        go_wp2_with (first
        | (with_reducible show wpList _ _ _ ({ dst := none, op := .store 61 _ _, type := _, pos := _, after := _, guard := _ } :: _) _ _
           refine wpList_store_row rfl 61 _ _ rfl w3.heap.size u.cs.toArray rfl rfl 61 Nd.zero.cs.toArray (At.new _ _ _) (by kernel_rfl) rfl hone ?_
           first | change wpList _ _ _ _ _ (boxN w3 u) | change Exit.then _ _ _ _ (boxN w3 u))
        | (with_reducible show wpList _ _ _ ({ dst := _, op := .load 61 _, type := _, pos := _, after := _, guard := _ } :: _) _ _
           refine wpList_load_row_want (by rfl) 61 _ rfl w3.heap.size rfl 61 u.cs.toArray (0, 0) _ HXb.out Tryz.underlying61 rfl (by rw [List.size_toArray, Nd.cs_length]; kernel_rfl) ?_)
        | fail)
        refine HPu.out.mono ?_
        rintro e w5 ⟨G5, rfl, hA5, hG5, ho5⟩
        have HA5 := Lib.hid hA5
        have HG5 := Lib.hid hG5
        have HO5 := Lib.hid ho5
        clear hA5 hG5 ho5
        go_wp2_with fail
        refine ⟨⟨j + 1, G5, by omega, by go_num, HA5, Lib.hid (fun b q => ?_), Lib.hid (below_of_off HBb.out HO5.out HG.out)⟩, by simp [intOf]; omega⟩
        rcases HG5.out b q with q | q
        · exact HG.out b q
        · exact Nat.le_trans HBb.out.size q
      · obtain rfl : j = ns.length := by omega
        have hAn := HA.out
        rw [List.take_length] at hAn
        obtain ⟨g2', m2, v2, hT2⟩ := hAn
        have hp2 := hT2.ptr
        injection hp2 with hp2
        injection hp2 with hp2
        injection hp2 with hp2 _ _
        subst hp2
        obtain ⟨g', m', v', hT⟩ := HLr.out.ar
        have hp := HP.out.symm.trans hT.ptr
        injection hp with hp
        injection hp with hp
        injection hp with hp _ _
        subst hp
        rw [HP.out] at hT
        obtain ⟨A2, cc2, rfl⟩ := hT2.row.len
        have HT2 := Lib.hid hT2
        have HT := Lib.hid hT
        have b0 := hT2.box.cell 0
        have b1 := hT2.box.cell 1
        have HNg : Hid (∀ b, G b → b ≠ gp) := Lib.hid (fun b q e => by
          have h3 := HG.out b q
          have h4 := HW.out.low gp (Or.inl (by
            obtain ⟨g9, m9, v9, h9⟩ := HW.out.ar
            have e9 := HP.out.symm.trans h9.ptr
            injection e9 with e9
            injection e9 with e9
            injection e9 with e9 _ _
            exact (h9.own gp).2 (Or.inl e9)))
          rw [HWd.out] at h3
          omega)
        have HAc : Hid (At wr g2 69 #[.slice A2 ns.length cc2, .map m2]) := Lib.hid hT2.box
        clear hT2 hT HA
        go_wp2_with fail
        go_still_tail 8, (by kernel_rfl)
        change wpList _ _ _ _ _ wr.drew
        obtain ⟨wq, hwq⟩ : ∃ wq, wq = wr.drew := ⟨_, rfl⟩
        have HTq : Hid (AT wq (.pointer (some ⟨gp, 0, none⟩)) (ns ++ m) F gp m' v') := Lib.hid (HT.out.keep (fun b q => by rw [hwq]; rfl))
        have HT2q : Hid (AT wq (.pointer (some ⟨g2, 0, none⟩)) ns G g2 m2 (.slice A2 ns.length cc2)) := Lib.hid (HT2.out.keep (fun b q => by rw [hwq]; rfl))
        have HBq : Hid (Below wd.heap.size wd wq) := Lib.hid (by rw [hwq]; exact HB.out.trans ((Below.drew (Below.refl _ wr)).mono HB.out.size))
        rw [← hwq]
        clear hwq b0 b1 c0
        have q0 : wq.cell? ⟨gp, 0, none⟩ = some v' := HTq.out.box.cell 0
        have q1 : wq.cell? ⟨gp, 1, none⟩ = some (.map m') := HTq.out.box.cell 1
        have f0 : wq.frozen? ⟨gp, 0, none⟩ = false := HTq.out.box.free 0
        have f1 : wq.frozen? ⟨gp, 1, none⟩ = false := HTq.out.box.free 1
        have q1' : (wq.setCell ⟨gp, 0, none⟩ (.slice A2 ns.length cc2)).cell? ⟨gp, 1, none⟩ = some (.map m') := (At.set HTq.out.box 0 (.slice A2 ns.length cc2)).cell 1
        have f1' : (wq.setCell ⟨gp, 0, none⟩ (.slice A2 ns.length cc2)).frozen? ⟨gp, 1, none⟩ = false := (At.set HTq.out.box 0 (.slice A2 ns.length cc2)).free 1
        go_wp2_with fail
        go_end0
        have hmv := arena_moved HTq.out HT2q.out HNg.out
        refine ⟨rfl, _, by rw [HP.out]; exact ⟨_, _, _, hmv⟩, fun b q => ?_, ?_⟩
        · rcases q with rfl | q | q
          · exact Or.inl ((HT.out.own b).2 (Or.inl rfl))
          · have := HG.out b ((HT2.out.own b).2 (Or.inr (Or.inl q)))
            rw [HWd.out] at this
            exact Or.inr this
          · have := HG.out b ((HT2.out.own b).2 (Or.inr (Or.inr q)))
            rw [HWd.out] at this
            exact Or.inr this
        · have hb := HBd.out.trans (HBq.out.mono HBd.out.size)
          refine ⟨hb.os, hb.tape, hb.output, by rw [World.size_setCell, World.size_setCell]; exact hb.size, fun b hlt hn => ?_⟩
          rw [set2_other _ _ _ _ _ (fun e => hn ((HT.out.own b).2 (Or.inl e)))]
          exact hb.block b hlt
end

end Go.Proofs.YthifbaacmohmnaaGreat

/- has, isOver of package linear. -/
namespace Go.Proofs.YthifbaacmohmnaaGreat
open Go.RowKit
set_option linter.unusedSimpArgs false
set_option linter.unusedVariables false

set_option maxRecDepth 100000 in
set_option maxHeartbeats 4000000 in
theorem lHas {w : World} {a : Value} {ns : List Nd} {F : Nat → Prop} (id : Int) (h : AA w a ns F) : Calls Tryz.prog 24 #[a, .int .i64 id] w fun e w' => e = .returned (.bool (decide (0 ≤ id ∧ id < (ns.length : Int)))) ∧ w' = w := by
  obtain ⟨gp, hgp⟩ := arenaMid.ptr h
  have HL := Lib.hid (arenaMid.len h)
  rw [hgp] at HL ⊢
  clear h hgp
  by_cases h0 : 0 ≤ id
  · have h1 : decide (0 ≤ id) = true := decide_eq_true h0
    have HE : Hid (decide (0 ≤ id ∧ id < (ns.length : Int)) = decide (id < (ns.length : Int))) := Lib.hid (by rw [Bool.eq_iff_iff, decide_eq_true_eq, decide_eq_true_eq]; exact ⟨fun q => q.2, fun q => ⟨h0, q⟩⟩)
    go_enter Tryz.func24, Tryz.ntmps24
    go_wp2_with fail
    refine HL.out.mono ?_
    rintro e w1 ⟨rfl, rfl⟩
    by_cases h2 : id < (ns.length : Int)
    · have h3 : decide (id < (ns.length : Int)) = true := decide_eq_true h2
      go_wp2_with fail
      go_ret
      exact ⟨by rw [HE.out, h3]; rfl, rfl⟩
    · have h3 : decide (id < (ns.length : Int)) = false := decide_eq_false h2
      go_wp2_with fail
      go_ret
      exact ⟨by rw [HE.out, h3]; rfl, rfl⟩
  · have h1 : decide (0 ≤ id) = false := decide_eq_false h0
    have HE : Hid (decide (0 ≤ id ∧ id < (ns.length : Int)) = false) := Lib.hid (decide_eq_false (fun q => h0 q.1))
    go_enter Tryz.func24, Tryz.ntmps24
    go_wp2_with fail
    go_ret
    exact ⟨rfl, rfl⟩
set_option maxRecDepth 100000 in
set_option maxHeartbeats 4000000 in
theorem lOutside {w : World} {gp bx : Nat} {ns : List Nd} {F : Nat → Prop} {l : List Int} {A : Option Addr} {n c : Nat} (h : AA w (.pointer (some ⟨gp, 0, none⟩)) ns F) (hb : At w bx 26 #[.pointer (some ⟨gp, 0, none⟩)]) (hl : IntsAt w (.slice A n c) l) (hi : ∀ x ∈ l, isIn ns x) :
    Calls Tryz.prog 65 #[.slice A n c, .pointer (some ⟨bx, 0, none⟩)] w fun e w' => e = .returned (.bool false) ∧ Below w.heap.size w w' := by
  have hmx := hl.max
  obtain rfl := hl.len
  have cx := hb.cell 0
  by_cases h0 : l.length = 0
  · have hz : ((l.length : Nat) : Int) = 0 := by omega
    have hz2 : decide ((0 : Int) < ((l.length : Nat) : Int)) = false := decide_eq_false (by omega)
    have hz3 : decide (((l.length : Nat) : Int) > 0) = false := decide_eq_false (by omega)
    clear h hb hl hi
    go_enter Tryz.func65, Tryz.ntmps65
    go_wp2_with fail
    go_quiet (fail)
    go_wp2_with fail
    go_ret
    exact ⟨rfl, below_drewN' (Below.refl _ _) _⟩
  · obtain ⟨b, off, rfl, hbl, q0⟩ := hl.at (l.length - 1) (by omega)
    obtain ⟨x, hx⟩ : ∃ x, inAt l (l.length - 1) = x := ⟨_, rfl⟩
    have hxi : isIn ns x := by rw [← hx, inAt_lt (show l.length - 1 < l.length by omega)]; exact hi _ (List.getElem_mem _)
    rw [hx] at q0
    have HH : Hid (∀ q : Nat, Calls Tryz.prog 24 #[.pointer (some ⟨gp, 0, none⟩), .int .i64 x] (w.drewN q) fun e w' => e = .returned (.bool true) ∧ ∃ m, w' = w.drewN m) := Lib.hid (fun q => (lHas x (h.drewN q)).mono (fun e w' z => ⟨by rw [z.1, show decide (0 ≤ x ∧ x < (ns.length : Int)) = true from decide_eq_true hxi], q, z.2⟩))
    have e1 : IntKind.i64.wrap (((l.length : Nat) : Int) - 1) = ((l.length - 1 : Nat) : Int) := by rw [show ((l.length : Nat) : Int) - 1 = ((l.length - 1 : Nat) : Int) by omega]; exact IntWalk.i64_in _ (by omega)
    obtain ⟨k, hk⟩ : ∃ k, l.length - 1 = k := ⟨_, rfl⟩
    have hkl : (k : Int) < ((l.length : Nat) : Int) := by omega
    have hk0 : (0 : Int) ≤ (k : Int) := by omega
    have hkn : ((k : Nat) : Int).toNat = k := by omega
    rw [hk] at e1 q0
    have hz : ((l.length : Nat) : Int) > 0 := by omega
    have hz2 : decide ((0 : Int) < ((l.length : Nat) : Int)) = true := decide_eq_true (by omega)
    have hz3 : decide (((l.length : Nat) : Int) > 0) = true := decide_eq_true (by omega)
    have hz4 : decide (0 < l.length) = true := decide_eq_true (by omega)
    clear h hb hl hi hx hxi hk
    go_enter Tryz.func65, Tryz.ntmps65
    go_wp2_with fail
    go_quiet (exact HH.out _)
    go_wp2_with fail
    go_ret
    exact ⟨rfl, below_drewN' (Below.refl _ _) _⟩
set_option maxRecDepth 100000 in
set_option maxHeartbeats 4000000 in
/-- The first part of which p holds, or -1. -/
theorem lIndexO (f : Fm) (p : List Int → Bool) (bx : Value) (A : Option Addr) (n c : Nat) (w : World) (h : FmAt w (.slice A n c) f)
    (hcall : ∀ w', Below w.heap.size w w' → ∀ l A n c, IntsAt w' (.slice A n c) l → l ∈ f → Calls Tryz.prog 65 #[.slice A n c, bx] w' fun e w'' => e = .returned (.bool (p l)) ∧ Below w'.heap.size w' w'') :
    Calls Tryz.prog 102 #[.slice A n c, .func (.func 65) #[] #[bx]] w fun e w' =>
      ∃ r : Int, e = .returned (.int .i64 r) ∧ ((r = -1 ∧ ∀ l ∈ f, p l = false) ∨ ∃ k : Nat, k < f.length ∧ r = k ∧ p (paAt f k) = true ∧ ∀ j, j < k → p (paAt f j) = false) ∧ Below w.heap.size w w' := by
  have HI := Lib.hid h
  have hm := h.max
  obtain rfl := h.len
  have HC := Lib.hid hcall
  have eg : ∀ args w, (callFunc 65 args).run Tryz.prog w = .ok (.enter 65 args) w := enters_of Tryz.func65 (by kernel_rfl) rfl
  clear h hcall
  go_enter Tryz.func102, Tryz.ntmps102
  go_wp2_with fail
  go_loopw [8] (fun v wr => ∃ i : Nat, i ≤ f.length ∧ v = .int .i64 i ∧ Hid (Below w.heap.size w wr) ∧ Hid (∀ j, j < i → p (paAt f j) = false)) (fun v _ => f.length - (intOf v).toNat)
  case atStart => exact ⟨0, Nat.zero_le _, rfl, Lib.hid (Below.refl _ _), Lib.hid (fun j hj => absurd hj (Nat.not_lt_zero _))⟩
  case round =>
    obtain ⟨i, hi, rfl, HB, HN⟩ := hrel
    by_cases hlt : i < f.length
    · have h1 : (0 : Int) ≤ (i : Int) := by omega
      have h2 : (i : Int) < (f.length : Int) := by omega
      obtain ⟨b, off, A2, c2, rfl, _, q1, hp⟩ := (HI.out.next HB.out).at i hlt
      have hcl := HC.out wr HB.out (paAt f i) A2 _ c2 hp (by rw [paAt_lt hlt]; exact List.getElem_mem hlt)
      obtain ⟨r, hr⟩ : ∃ r, p (paAt f i) = r := ⟨_, rfl⟩
      rw [hr] at hcl
      have HCl := Lib.hid hcl
      have HR := Lib.hid hr
      clear hcl hr hp
      cases r
      · go_wp2_with fail
        refine HCl.out.mono ?_
        rintro e w3 ⟨rfl, hb3⟩
        have HB3 := Lib.hid (HB.out.trans (hb3.mono HB.out.size))
        clear hb3
        go_wp2_with fail
        refine ⟨⟨i + 1, by omega, by go_num, HB3, Lib.hid (fun j hj => ?_)⟩, by simp [intOf]; omega⟩
        by_cases e : j = i
        · rw [e]; exact HR.out
        · exact HN.out j (by omega)
      · go_wp2_with fail
        refine HCl.out.mono ?_
        rintro e w3 ⟨rfl, hb3⟩
        have HB3 := Lib.hid (HB.out.trans (hb3.mono HB.out.size))
        clear hb3
        go_wp2_with fail
        go_ret
        exact ⟨_, rfl, .inr ⟨i, hlt, rfl, HR.out, HN.out⟩, HB3.out⟩
    · obtain rfl : i = f.length := by omega
      go_wp2_with fail
      go_ret
      refine ⟨_, rfl, .inl ⟨rfl, fun l hl => ?_⟩, HB.out⟩
      obtain ⟨j, hj, rfl⟩ := List.mem_iff_getElem.1 hl
      have := HN.out j hj
      rwa [paAt_lt hj] at this
set_option maxRecDepth 100000 in
set_option maxHeartbeats 4000000 in
theorem lContO (f : Fm) (p : List Int → Bool) (bx : Value) (A : Option Addr) (n c : Nat) (w : World) (h : FmAt w (.slice A n c) f)
    (hcall : ∀ w', Below w.heap.size w w' → ∀ l A n c, IntsAt w' (.slice A n c) l → l ∈ f → Calls Tryz.prog 65 #[.slice A n c, bx] w' fun e w'' => e = .returned (.bool (p l)) ∧ Below w'.heap.size w' w'') :
    Calls Tryz.prog 66 #[.slice A n c, .func (.func 65) #[] #[bx]] w fun e w' => e = .returned (.bool (f.any p)) ∧ Below w.heap.size w w' := by
  have HI := Lib.hid (lIndexO f p bx A n c w h hcall)
  clear h hcall
  go_enter Tryz.func66, Tryz.ntmps66
  go_wp2_with fail
  refine HI.out.mono ?_
  rintro e w1 ⟨r, rfl, hr, hb⟩
  have HB := Lib.hid hb
  clear hb
  rcases hr with ⟨rfl, h0⟩ | ⟨k, hk, rfl, h1, _⟩
  · have HE : Hid (f.any p = false) := Lib.hid (by rw [List.any_eq_false]; intro l hl; rw [h0 l hl]; simp)
    clear h0
    go_wp2_with fail
    go_ret
    exact ⟨by rw [HE.out]; rfl, HB.out⟩
  · have HE : Hid (f.any p = true) := Lib.hid (by rw [List.any_eq_true]; exact ⟨_, List.getElem_mem hk, by rw [← paAt_lt hk]; exact h1⟩)
    have h2 : (k : Int) ≥ 0 := by omega
    clear h1
    go_wp2_with fail
    go_ret
    exact ⟨by rw [HE.out]; rfl, HB.out⟩
set_option maxRecDepth 100000 in
set_option maxHeartbeats 4000000 in
theorem lIsOver {w : World} {a : Value} {ns : List Nd} {F : Nat → Prop} {f : Fm} {A : Option Addr} {n c : Nat} (h : AA w a ns F) (hv : FmAt w (.slice A n c) f) (hf : FmIn (Ls ns) f) :
    Calls Tryz.prog 37 #[a, .slice A n c] w fun e w' => e = .returned (.bool true) ∧ Below w.heap.size w w' := by
  obtain ⟨gp, rfl⟩ := arenaMid.ptr h
  have hmx := arenaMid.max h
  obtain ⟨w2, hw2⟩ : ∃ w2, w2 = w.alloc (.cells #[.pointer (some ⟨gp, 0, none⟩)] 26) := ⟨_, rfl⟩
  have hb2 : Below w.heap.size w w2 := by rw [hw2]; exact (Below.refl _ _).alloc (Nat.le_refl _) _
  have HB2 := Lib.hid hb2
  have HA2 := Lib.hid (h.next hb2)
  have hbx : At w2 w.heap.size 26 #[.pointer (some ⟨gp, 0, none⟩)] := by rw [hw2]; exact At.new _ _ _
  have HBx := Lib.hid hbx
  have HV2 := Lib.hid (hv.next hb2)
  have HI := Lib.hid hf
  have HF := Lib.hid (gFormed HV2.out (by have := hf.few; omega) (fun q hq => by have := hf.part (ls_up ns) hq; rw [ls_len] at this; omega))
  rw [hf.fm] at HF
  have HW2 := Lib.hid hw2
  have c2 := hbx.cell 0
  rw [hw2] at c2 HF
  clear h hv hf hb2 hbx hw2
  go_enter Tryz.func37, Tryz.ntmps37
  go_wp2_with fail
  refine HF.out.mono ?_
  rintro e w3 ⟨rfl, hb3⟩
  rw [← HW2.out] at hb3
  have HB3 := Lib.hid (HB2.out.trans (hb3.mono HB2.out.size))
  have HA3 := Lib.hid (HA2.out.next hb3)
  have HBx3 := Lib.hid ((hb3.block _ HBx.out.lt).trans HBx.out)
  have HC := Lib.hid (lContO f (fun _ => false) (.pointer (some ⟨w.heap.size, 0, none⟩)) A n c w3 (HV2.out.next hb3) (fun w' hb' l A2 n2 c2 hl hm => lOutside (HA3.out.next hb') ((hb'.block _ (At.lt HBx3.out)).trans HBx3.out) hl (HI.out.inF l hm)))
  have HAny : Hid (f.any (fun _ => false) = false) := Lib.hid (by simp)
  rw [HAny.out] at HC
  clear hb3 c2 HF
  go_wp2_with fail
  refine HC.out.mono ?_
  rintro e w4 ⟨rfl, hb4⟩
  have HB4 := Lib.hid (HB3.out.trans (hb4.mono HB3.out.size))
  clear hb4
  go_wp2_with fail
  go_ret
  exact ⟨rfl, HB4.out⟩

end Go.Proofs.YthifbaacmohmnaaGreat

/- end, Of, Next of package linear. -/
namespace Go.Proofs.YthifbaacmohmnaaGreat
open Go.RowKit
set_option linter.unusedSimpArgs false
set_option linter.unusedVariables false

def OkL (ns : List Nd) (f : Fm) : Prop := FmIn (Ls ns) f
theorem Begun.xb {p : LP} {w0 w1 : World} {a : Value} {ns : List Nd} {F : Nat → Prop} {b bt : Nat} (h : Begun p w0 a ns F b bt w1) {k : Nat} (hk : XB p F k) : F k ∨ w0.heap.size ≤ k := by
  obtain ⟨n1, n2, n3, n4⟩ := h.new
  rcases hk with q | q | q | q | q
  · exact Or.inl q
  · exact Or.inr (by omega)
  · exact Or.inr (by omega)
  · exact Or.inr (by omega)
  · exact Or.inr (by omega)
theorem Begun.xy {p : LP} {w0 w1 : World} {a : Value} {ns : List Nd} {F : Nat → Prop} {b bt : Nat} (h : Begun p w0 a ns F b bt w1) {k : Nat} (hk : XY p F k) : F k ∨ w0.heap.size ≤ k := hk.elim h.xb (fun q => absurd q (h.y k))
theorem Begun.off {p : LP} {w0 w1 w : World} {a : Value} {ns ns1 : List Nd} {F F1 : Nat → Prop} {b bt : Nat} {many : Bool} (h : Begun p w0 a ns F b bt w1) (g : Grow p w1 ns F false w ns1 F1 many) : OffF F w0 w :=
  (OffF.of h.below).off g.off (fun k q => h.xb q)
theorem Begun.low {p : LP} {w0 w1 w : World} {a : Value} {ns ns1 : List Nd} {F F1 : Nat → Prop} {b bt : Nat} {many : Bool} (h : Begun p w0 a ns F b bt w1) (g : Grow p w1 ns F false w ns1 F1 many) : ∀ k, F1 k → F k ∨ w0.heap.size ≤ k := fun k q => by
  rcases g.low k q with q | q
  · exact Or.inl q
  · exact Or.inr (Nat.le_trans h.below.size q)
set_option maxRecDepth 100000 in
set_option maxHeartbeats 4000000 in
theorem lEnd {p : LP} {w0 w1 w : World} {a : Value} {ns ns1 : List Nd} {F F1 : Nat → Prop} {b bt : Nat} {many : Bool} {R : List Nd → Fm → Prop} {A : Option Addr} {n c : Nat} {f : Fm} (h : Begun p w0 a ns F b bt w1) (g : Grow p w1 ns F false w ns1 F1 many) (hk : Keeps (XY p F1) w (.slice A n c) f) (hi : FmIn (Ls ns1) f) (hR : many = false → R ns1 f) :
    Calls Tryz.prog 26 #[.pointer (some ⟨p.gw, 0, none⟩), .slice A n c] w (Fmla AA OkL w0 a ns F R) := by
  have c7 := g.lw.cells.2.2.2.2.2.2.2
  have HH := Lib.hid h
  have HG := Lib.hid g
  have HK := Lib.hid hk
  have HI := Lib.hid hi
  have HR := Lib.hid hR
  obtain ⟨m, rfl⟩ := g.more
  cases many
  · clear h g hk hi hR
    go_enter Tryz.func26, Tryz.ntmps26
    go_wp2_with fail
    go_ret2
    have hA := HG.out.lw.ar
    rw [HH.out.a] at hA
    exact ⟨A, n, c, 0, f, m, F1, rfl, hA, HH.out.low HG.out, HH.out.off HG.out, Or.inr ⟨rfl, HK.out.less (fun k q => Or.inl (Or.inl q)), HI.out, HR.out (by trivial)⟩⟩
  · have HU := Lib.hid (lUndo g.lw h.before)
    clear h g hk hi hR
    go_enter Tryz.func26, Tryz.ntmps26
    go_wp2_with fail
    refine HU.out.mono ?_
    rintro e w2 ⟨rfl, F2, hA, hl, ho⟩
    have HA := Lib.hid hA
    have HL := Lib.hid hl
    have HO := Lib.hid ho
    clear hA hl ho
    go_wp2_with fail
    go_ret2
    have hA := HA.out
    rw [HH.out.a] at hA
    refine ⟨none, 0, 0, 4, [], [], F2, rfl, by rw [List.append_nil]; exact hA, fun k q => ?_, (HH.out.off HG.out).off HO.out (HH.out.low HG.out), Or.inl rfl⟩
    rcases HL.out k q with q | q
    · exact HH.out.low HG.out k q
    · exact Or.inr (Nat.le_trans (HH.out.off HG.out).size q)
set_option maxRecDepth 100000 in
set_option maxHeartbeats 4000000 in
theorem lOfNo {w : World} {a : Value} {ns : List Nd} {F : Nat → Prop} (id : Int) (h : AA w a ns F) (hid : I64 id) (hn : ¬ isIn ns id) : Calls Tryz.prog 8 #[a, .int .i64 id] w fun e w' => ∃ (A : Option Addr) (c : Nat), e = .returned (.tuple #[.slice A 0 c, .int .i64 1]) ∧ AA w' a ns F ∧ Below w.heap.size w w' := by
  have HH := Lib.hid (lHas id h)
  rw [show decide (0 ≤ id ∧ id < (ns.length : Int)) = false from decide_eq_false hn] at HH
  have HA := Lib.hid h
  clear h hn
  go_enter Tryz.func8, Tryz.ntmps8
  go_wp2_with fail
  refine HH.out.mono ?_
  rintro e w1 ⟨rfl, rfl⟩
  go_wp2_with fail
  go_ret2
  exact ⟨none, 0, rfl, HA.out, Below.refl _ _⟩
set_option maxRecDepth 100000 in
set_option maxHeartbeats 4000000 in
theorem lOfIn {w : World} {a : Value} {ns : List Nd} {F : Nat → Prop} (id : Int) (h : AA w a ns F) (hin : isIn ns id) : Calls Tryz.prog 8 #[a, .int .i64 id] w (Fmla AA OkL w a ns F fun ms f => OfR ns id ms f) := by
  have HH := Lib.hid (lHas id h)
  rw [show decide (0 ≤ id ∧ id < (ns.length : Int)) = true from decide_eq_true hin] at HH
  have HB := Lib.hid (lBegin 0 0 h (by omega) (by omega))
  have HI := Lib.hid hin
  have hI := isIn_I64 (arenaMid.max h) hin
  clear h hin
  go_enter Tryz.func8, Tryz.ntmps8
  go_wp2_with fail
  refine HH.out.mono ?_
  rintro e w1 ⟨rfl, rfl⟩
  go_wp2_with fail
  refine HB.out.mono ?_
  rintro e w2 ⟨p, rfl, hb⟩
  have HBg := Lib.hid hb
  have HF := Lib.hid (lFormula id hI (Or.inl HI.out) hb.lw)
  clear hb
  go_wp2_with fail
  refine HF.out.mono ?_
  rintro e w3 ⟨v3, f, ns3, F3, many3, rfl, hg3, hk3, hi3, hd3⟩
  obtain ⟨A3, c3, hv3⟩ := hk3.at
  subst hv3
  have HE := Lib.hid (lEnd HBg.out hg3 hk3 hi3 hd3)
  clear hg3 hk3 hi3 hd3
  go_wp2_with fail
  refine HE.out.mono ?_
  rintro e w4 ⟨A4, n4, c4, er, f4, m4, F4, rfl, h4⟩
  have H4 := Lib.hid h4
  clear h4
  go_wp2_with fail
  go_ret2
  exact ⟨A4, n4, c4, er, f4, m4, F4, rfl, H4.out⟩
set_option maxRecDepth 100000 in
set_option maxHeartbeats 4000000 in
theorem lNext {w : World} {a : Value} {ns : List Nd} {F : Nat → Prop} {A : Option Addr} {n c : Nat} {f : Fm} (b bt : Nat) (h : AA w a ns F) (hk : Keeps F w (.slice A n c) f) (hf : OkL ns f) (hb : b < 256) (hbt : bt < 256) :
    Calls Tryz.prog 14 #[a, .slice A n c, .int .u8 b, .int .u8 bt] w (Fmla AA OkL w a ns F fun ms h => Den (V1 b bt) 1 (fun l bits i j => f.any (fun p => p.all (fun x => ndTv ns x l bits i j))) ms h) := by
  have HO := Lib.hid (lIsOver h hk.here hf)
  have HA := Lib.hid h
  have HK := Lib.hid hk
  have HF := Lib.hid hf
  clear h hk hf
  go_enter Tryz.func14, Tryz.ntmps14
  go_wp2_with fail
  refine HO.out.mono ?_
  rintro e w1 ⟨rfl, hb1⟩
  have HB1 := Lib.hid hb1
  have HBe := Lib.hid (lBegin b bt (HA.out.next hb1) hb hbt)
  have HK1 := Lib.hid (HK.out.next hb1)
  clear hb1
  go_wp2_with fail
  refine HBe.out.mono ?_
  rintro e w2 ⟨p, rfl, hbg⟩
  have HBg0 := Lib.hid hbg
  have HBg : Hid (Begun p w a ns F b bt w2) := Lib.hid ⟨hbg.lw, HB1.out.trans (hbg.below.mono HB1.out.size), hbg.a, hbg.b, hbg.bt, hbg.before, hbg.y, by obtain ⟨n1, n2, n3, n4⟩ := hbg.new; have := HB1.out.size; omega⟩
  have hK2 : Keeps (XY p F) w2 (.slice A n c) f := HK1.out.step (OffF.of hbg.below) (fun k q => hbg.xy q)
  have HRe := Lib.hid (lReplLeft hbg.lw hK2 HF.out (fun q hq => ofLeftAll q (fun y hy => FmIn.inF HF.out q hq y hy)))
  rw [hbg.b, hbg.bt] at HRe
  clear hbg hK2
  go_wp2_with fail
  refine HRe.out.mono ?_
  rintro e w3 ⟨v3, f3, ns3, F3, many3, rfl, hg3, hk3, hi3, hd3⟩
  obtain ⟨A3, c3, hv3⟩ := hk3.at
  subst hv3
  have HE := Lib.hid (lEnd HBg.out hg3 hk3 hi3 hd3)
  clear hg3 hk3 hi3 hd3
  go_wp2_with fail
  refine HE.out.mono ?_
  rintro e w4 ⟨A4, n4, c4, er, f4, m4, F4, rfl, h4⟩
  have H4 := Lib.hid h4
  clear h4
  go_wp2_with fail
  go_ret2
  exact ⟨A4, n4, c4, er, f4, m4, F4, rfl, H4.out⟩

end Go.Proofs.YthifbaacmohmnaaGreat

/- slices.IndexFunc of numbers, at functions that may keep something. -/
namespace Go.Proofs.YthifbaacmohmnaaGreat
open Go.RowKit
set_option linter.unusedSimpArgs false
set_option linter.unusedVariables false

set_option maxRecDepth 100000 in
set_option maxHeartbeats 4000000 in
theorem lIndexH (l : List Int) (p : Int → Bool) (Inv : World → Prop) (bx : Value) (A : Option Addr) (n c : Nat) (w : World) (h : Inv w) (hat : ∀ W, Inv W → IntsAt W (.slice A n c) l)
    (hcall : ∀ W x, Inv W → x ∈ l → Calls Tryz.prog 68 #[.int .i64 x, bx] W fun e W' => e = .returned (.bool (p x)) ∧ Inv W') :
    Calls Tryz.prog 71 #[.slice A n c, .func (.func 68) #[] #[bx]] w fun e w' =>
      ∃ r : Int, e = .returned (.int .i64 r) ∧ ((r = -1 ∧ ∀ x ∈ l, p x = false) ∨ ∃ k : Nat, k < l.length ∧ r = k ∧ p (inAt l k) = true ∧ ∀ j, j < k → p (inAt l j) = false) ∧ Inv w' := by
  have HI := Lib.hid h
  have HAt := Lib.hid hat
  have hm := (hat w h).max
  obtain rfl := (hat w h).len
  have HC := Lib.hid hcall
  have eg : ∀ args w, (callFunc 68 args).run Tryz.prog w = .ok (.enter 68 args) w := enters_of Tryz.func68 (by kernel_rfl) rfl
  clear h hcall hat
  go_enter Tryz.func71, Tryz.ntmps71
  go_wp2_with fail
  go_loopw [8] (fun v wr => ∃ i : Nat, i ≤ l.length ∧ v = .int .i64 i ∧ Hid (Inv wr) ∧ Hid (∀ j, j < i → p (inAt l j) = false)) (fun v _ => l.length - (intOf v).toNat)
  case atStart => exact ⟨0, Nat.zero_le _, rfl, HI, Lib.hid (fun j hj => absurd hj (Nat.not_lt_zero _))⟩
  case round =>
    obtain ⟨i, hi, rfl, HV, HN⟩ := hrel
    by_cases hlt : i < l.length
    · have h1 : (0 : Int) ≤ (i : Int) := by omega
      have h2 : (i : Int) < (l.length : Int) := by omega
      obtain ⟨b, off, rfl, _, q1⟩ := (HAt.out wr HV.out).at i hlt
      have hcl := HC.out wr (inAt l i) HV.out (by rw [inAt_lt hlt]; exact List.getElem_mem hlt)
      obtain ⟨r, hr⟩ : ∃ r, p (inAt l i) = r := ⟨_, rfl⟩
      obtain ⟨x, hx⟩ : ∃ x, inAt l i = x := ⟨_, rfl⟩
      rw [hr] at hcl
      have HR := Lib.hid hr
      rw [hx] at hcl q1
      have HCl := Lib.hid hcl
      clear hcl hr hx
      cases r
      · go_wp2_with fail
        refine HCl.out.mono ?_
        rintro e w3 ⟨rfl, hv3⟩
        have HV3 := Lib.hid hv3
        clear hv3 q1
        go_wp2_with fail
        refine ⟨⟨i + 1, by omega, by go_num, HV3, Lib.hid (fun j hj => ?_)⟩, by simp [intOf]; omega⟩
        by_cases e : j = i
        · rw [e]; exact HR.out
        · exact HN.out j (by omega)
      · go_wp2_with fail
        refine HCl.out.mono ?_
        rintro e w3 ⟨rfl, hv3⟩
        have HV3 := Lib.hid hv3
        clear hv3 q1
        go_wp2_with fail
        go_ret
        exact ⟨_, rfl, Or.inr ⟨i, hlt, rfl, HR.out, HN.out⟩, HV3.out⟩
    · obtain rfl : i = l.length := by omega
      go_wp2_with fail
      go_ret
      refine ⟨_, rfl, Or.inl ⟨rfl, fun x hx => ?_⟩, HV.out⟩
      obtain ⟨k, hk, rfl⟩ := List.mem_iff_getElem.1 hx
      rw [← inAt_lt hk]
      exact HN.out k hk
set_option maxRecDepth 100000 in
set_option maxHeartbeats 4000000 in
theorem lIndexA (l : List Int) (p : Int → Bool) (Inv : World → Prop) (bx : Value) (A : Option Addr) (n c : Nat) (w : World) (h : Inv w) (hat : ∀ W, Inv W → IntsAt W (.slice A n c) l)
    (hcall : ∀ W x, Inv W → x ∈ l → Calls Tryz.prog 38 #[.int .i64 x, bx] W fun e W' => e = .returned (.bool (p x)) ∧ Inv W') :
    Calls Tryz.prog 71 #[.slice A n c, .func (.func 38) #[] #[bx]] w fun e w' =>
      ∃ r : Int, e = .returned (.int .i64 r) ∧ ((r = -1 ∧ ∀ x ∈ l, p x = false) ∨ ∃ k : Nat, k < l.length ∧ r = k ∧ p (inAt l k) = true ∧ ∀ j, j < k → p (inAt l j) = false) ∧ Inv w' := by
  have HI := Lib.hid h
  have HAt := Lib.hid hat
  have hm := (hat w h).max
  obtain rfl := (hat w h).len
  have HC := Lib.hid hcall
  have eg : ∀ args w, (callFunc 38 args).run Tryz.prog w = .ok (.enter 38 args) w := enters_of Tryz.func38 (by kernel_rfl) rfl
  clear h hcall hat
  go_enter Tryz.func71, Tryz.ntmps71
  go_wp2_with fail
  go_loopw [8] (fun v wr => ∃ i : Nat, i ≤ l.length ∧ v = .int .i64 i ∧ Hid (Inv wr) ∧ Hid (∀ j, j < i → p (inAt l j) = false)) (fun v _ => l.length - (intOf v).toNat)
  case atStart => exact ⟨0, Nat.zero_le _, rfl, HI, Lib.hid (fun j hj => absurd hj (Nat.not_lt_zero _))⟩
  case round =>
    obtain ⟨i, hi, rfl, HV, HN⟩ := hrel
    by_cases hlt : i < l.length
    · have h1 : (0 : Int) ≤ (i : Int) := by omega
      have h2 : (i : Int) < (l.length : Int) := by omega
      obtain ⟨b, off, rfl, _, q1⟩ := (HAt.out wr HV.out).at i hlt
      have hcl := HC.out wr (inAt l i) HV.out (by rw [inAt_lt hlt]; exact List.getElem_mem hlt)
      obtain ⟨r, hr⟩ : ∃ r, p (inAt l i) = r := ⟨_, rfl⟩
      obtain ⟨x, hx⟩ : ∃ x, inAt l i = x := ⟨_, rfl⟩
      rw [hr] at hcl
      have HR := Lib.hid hr
      rw [hx] at hcl q1
      have HCl := Lib.hid hcl
      clear hcl hr hx
      cases r
      · go_wp2_with fail
        refine HCl.out.mono ?_
        rintro e w3 ⟨rfl, hv3⟩
        have HV3 := Lib.hid hv3
        clear hv3 q1
        go_wp2_with fail
        refine ⟨⟨i + 1, by omega, by go_num, HV3, Lib.hid (fun j hj => ?_)⟩, by simp [intOf]; omega⟩
        by_cases e : j = i
        · rw [e]; exact HR.out
        · exact HN.out j (by omega)
      · go_wp2_with fail
        refine HCl.out.mono ?_
        rintro e w3 ⟨rfl, hv3⟩
        have HV3 := Lib.hid hv3
        clear hv3 q1
        go_wp2_with fail
        go_ret
        exact ⟨_, rfl, Or.inr ⟨i, hlt, rfl, HR.out, HN.out⟩, HV3.out⟩
    · obtain rfl : i = l.length := by omega
      go_wp2_with fail
      go_ret
      refine ⟨_, rfl, Or.inl ⟨rfl, fun x hx => ?_⟩, HV.out⟩
      obtain ⟨k, hk, rfl⟩ := List.mem_iff_getElem.1 hx
      rw [← inAt_lt hk]
      exact HN.out k hk

end Go.Proofs.YthifbaacmohmnaaGreat
