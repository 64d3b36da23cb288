/- looks.Make. -/
import Derived.Test.YtjkcbojlopdonaaAddLooks
import Derived.Test.YtjkcbojlopdonaaTreeSize
import Derived.Test.YtjkcbojlopdonaaFormMass
namespace Go.Proofs.Ytjkcbojlopdonaa
open Go.RowKit
set_option linter.unusedSimpArgs false
set_option linter.unusedVariables false

theorem slim_down : ∀ (k : Nat) (t : Tr), slimS (k + 1) t → slimS k t
  | 0, _, _ => trivial
  | k + 1, t, h => ⟨h.1, fun p hp => slim_down k p (h.2 p hp)⟩
theorem slim_any (t : Tr) {k : Nat} (hl : Tr.Lv k t) (hf : isFormed k t = true) (m : Nat) : slimS m t := by
  have h1 : ∀ d, slimS (k + d) t := fun d => by
    obtain ⟨e, l⟩ := isFormed_more hl d
    exact isFormed_slim l (by rw [e]; exact hf)
  have h2 := h1 m
  have h3 : ∀ d, slimS (m + d) t → slimS m t := by
    intro d
    induction d with
    | zero => exact id
    | succ d ih => exact fun h => ih (slim_down _ _ h)
  exact h3 k (by rw [Nat.add_comm]; exact h2)
theorem mass_up : ∀ (k : Nat) (t : Tr), massS k t ≤ massS (k + 1) t
  | 0, t => mass_pos 1 t
  | k + 1, t => by
    show 1 + (t.parts.map (massS k)).sum ≤ 1 + (t.parts.map (massS (k + 1))).sum
    have : ∀ l : List Tr, (l.map (massS k)).sum ≤ (l.map (massS (k + 1))).sum := fun l => by
      induction l with
      | nil => exact Nat.le_refl _
      | cons p l ih => rw [List.map_cons, List.map_cons, List.sum_cons, List.sum_cons]; have := mass_up k p; omega
    have := this t.parts
    omega
theorem mass_any (t : Tr) {k : Nat} (hl : Tr.Lv k t) (hf : isFormed k t = true) (m : Nat) : massS m t ≤ 4000000 := by
  have h1 : ∀ d, massS (k + d) t ≤ 4000000 := fun d => by
    obtain ⟨e, l⟩ := isFormed_more hl d
    rw [← e] at hf
    unfold isFormed at hf
    rw [Bool.and_eq_true, Bool.and_eq_true] at hf
    have hs := of_decide_eq_true hf.2.2
    have := mass_size (k + d) t l (by omega)
    omega
  have h3 : ∀ d, massS m t ≤ massS (m + d) t := by
    intro d
    induction d with
    | zero => exact Nat.le_refl _
    | succ d ih => exact Nat.le_trans ih (mass_up _ _)
  have h2 := h1 m
  have h4 := h3 k
  rw [Nat.add_comm] at h2
  omega
/-- A formed pattern that comes in. -/
theorem formed_in {w : World} {K : Nat} {t : Tr} (h : Tr.Ins w K t) (hf : isFormed K t = true) : Tr.Ins w 40 t ∧ Tr.Lv 40 t ∧ isFormed 40 t = true ∧ formedS 40 t = true := by
  have hlv := h.1.lv
  have hT : FormedT t := ⟨K, hlv, hf⟩
  obtain ⟨l40, f40⟩ := hT.lv40
  have h40 := deep_in K 40 t h.1 (isFormed_deep hf)
  have f40' := f40
  unfold isFormed at f40'
  rw [Bool.and_eq_true, Bool.and_eq_true] at f40'
  exact ⟨⟨h40, sol_any K 40 t h40 h.2 h.1⟩, l40, f40, f40'.2.1⟩
theorem addIn_of {w : World} {K gp : Nat} {t : Tr} (h : Tr.Ins w K t) (hf : isFormed K t = true) (hg : w.heap.size ≤ gp) : AddIn w 40 gp (.slice none 0 0) t := by
  obtain ⟨h1, h2, h3, h4⟩ := formed_in h hf
  exact ⟨h1, h4, slim_any t h2 h3, mass_any t h2 h3, off_new hg h1.1, fun b e => by cases e⟩
/-- A block of something else is none of a pattern's own. -/
theorem OwnW.offT {w : World} {g0 : Nat} {T : TypeId} {cs : Array Value} (hA : At w g0 T cs) (hT : T ≠ 35) : ∀ {k lo hi : Nat} {t : Tr}, OwnW w k lo hi t → Tr.Off g0 k t
  | 0, _, _, _, _ => trivial
  | k + 1, lo, hi, t, ⟨m, h1, h2, h3⟩ => ⟨fun h0 b' off e q => by
      obtain ⟨g, cs', e', _, _, hg⟩ := h2 h0
      rw [e] at e'
      injection e' with e'
      injection e' with e1
      unfold At at hA hg
      rw [← e1, q, hA] at hg
      injection hg with hg
      injection hg with _ h4
      exact hT h4, fun p hp => by
      obtain ⟨a, c, h4, h5, h6⟩ := OwnL.mem (fun _ _ _ q => OwnW.le q) h3 hp
      exact h6.offT hA hT⟩
def refAll (l : List Tr) : List Tr := l.foldl (refL 40) []
/-- What Make answers. -/
def MakePost (K : Nat) (l : List Tr) (w : World) (e : Ending) (w' : World) : Prop :=
  ∃ (v : Value) (L : List Tr) (er : Int), e = .returned (.tuple #[.agg #[v], .int .i64 er]) ∧ Below w.heap.size w w' ∧ LksAt w' v L ∧ ((er = 1 ∧ L = [] ∧ ∃ t ∈ l, isFormed K t = false) ∨ ((∀ t ∈ l, isFormed K t = true) ∧ ((er = 10 ∧ L = [] ∧ 4 < (refAll l).length) ∨ (er = 0 ∧ (refAll l).length ≤ 4 ∧ RelL L (refAll l)))))
theorem lks_nil (w : World) : LksAt w (.slice none 0 0) [] := ⟨Pats.nil w 40, fun t ht => by cases ht⟩
theorem plan_nil (w : World) : PlanAt (w.alloc (.cells #[.slice none 0 0] 26)) w.heap.size (.slice none 0 0) [] :=
  ⟨At.new _ _ _, ⟨rfl, Or.inl ⟨rfl, rfl⟩⟩, Nat.zero_le _, fun t ht => absurd ht List.not_mem_nil, fun t ht => absurd ht List.not_mem_nil, fun t ht => absurd ht List.not_mem_nil⟩
theorem relL_nil : RelL [] [] := ⟨rfl, fun t ht => absurd ht List.not_mem_nil, fun t ht => absurd ht List.not_mem_nil⟩
theorem make_below {w wA wr : World} {gp : Nat} (h : Below w.heap.size w wA) (k : KeepP gp (.slice none 0 0) wA wr) (hg : w.heap.size ≤ gp) : Below w.heap.size w wr :=
  ⟨k.os.trans h.os, k.tape.trans h.tape, k.output.trans h.output, Nat.le_trans h.size k.size, fun b hb => (k.block b (Nat.lt_of_lt_of_le hb h.size) (by omega) (fun e => by cases e)).trans (h.block b hb)⟩
/-- Between two rounds. -/
structure MJ (wA : World) (gp g0 : Nat) (l : List Tr) (j : Nat) (wr : World) (v2 : Value) (L2 : List Tr) : Prop where
  keep : KeepP gp (.slice none 0 0) wA wr
  new : NewV wA (.slice none 0 0) v2
  plan : PlanAt wr gp v2 L2
  rel : RelL L2 ((l.take j).foldl (refL 40) [])
  box : At wr g0 26 #[.slice none 0 0]
set_option maxRecDepth 100000 in
set_option maxHeartbeats 16000000 in
theorem tMake (K : Nat) (v : Value) (l : List Tr) (w : World) (hv : Pats w K v l) (hin : ∀ t ∈ l, Tr.Ins w K t) (hl : l.length ≤ 1000000) :
    Calls Try.prog 6 #[v] w (MakePost K l w) := by
  obtain ⟨A, c, rfl, hrow, _⟩ := hv
  have HR := Lib.hid hrow
  have HI := Lib.hid hin
  have HL := Lib.hid hl
  obtain ⟨w1, hw1⟩ : ∃ w1, w1 = w.alloc (.cells #[.slice none 0 0] 26) := ⟨_, rfl⟩
  have hb1 : Below w.heap.size w w1 := by rw [hw1]; exact (Below.refl _ _).alloc (Nat.le_refl _) _
  have hA1 : At w1 w.heap.size 26 #[.slice none 0 0] := by rw [hw1]; exact At.new _ _ _
  have HB1 := Lib.hid hb1
  have HA1 := Lib.hid hA1
  have HW1 := Lib.hid hw1
  clear hrow hin hb1 hA1 hw1
  go_enter Try.func6, Try.ntmps6
  go_wp2_with fail
  rw [← HW1.out]
  go_loopw [11] (fun i wr => ∃ j : Nat, j ≤ l.length ∧ i = .int .i64 j ∧ Hid (Below w1.heap.size w1 wr) ∧ Hid (∀ t ∈ l.take j, isFormed K t = true)) (fun i _ => l.length - (intOf i).toNat)
  case atStart => exact ⟨0, Nat.zero_le _, rfl, Lib.hid (Below.refl _ _), Lib.hid (fun t ht => by cases ht)⟩
  case round =>
    obtain ⟨j, hj, rfl, HB, HF⟩ := hrel
    have HBw : Hid (Below w.heap.size w wr) := Lib.hid (HB1.out.trans (HB.out.mono HB1.out.size))
    have HA := Lib.hid (At.below HA1.out HB.out HA1.out.lt)
    by_cases hlt : j < l.length
    · obtain ⟨b1, o1, rfl, hb1, hr1⟩ := HR.out (by omega)
      have HX := Lib.hid (range_below (hr1 j hlt) hb1 (Nat.le_refl _) HBw.out)
      have hjz : (0 : Int) ≤ (j : Int) := by omega
      have hjn : (j : Int) < (l.length : Int) := by omega
      have HTk : Hid (l.take (j + 1) = l.take j ++ [l[j]]) := Lib.hid (List.take_succ_eq_append_getElem hlt)
      have HIn := Lib.hid ((HI.out _ (List.getElem_mem hlt)).next HBw.out)
      have HMm := Lib.hid (List.getElem_mem hlt)
      obtain ⟨q, hq⟩ : ∃ q, q = l[j] := ⟨_, rfl⟩
      rw [← hq] at HX HTk HIn HMm
      clear hb1 hr1 hq
      have hbx := boxW_next wr q
      have HBx := Lib.hid (boxW_at wr q)
      have HC := Lib.hid (treeFormed K q (boxW wr q) (HIn.out.next hbx).1)
      have HB2 := Lib.hid (HB.out.trans (hbx.mono HB.out.size))
      have HA2 := Lib.hid (At.below HA.out hbx HA.out.lt)
      have hone := Tr.one q
      clear hbx
      go_wp2_with (first
        | (with_reducible show wpList _ _ _ ({ dst := some 14, op := .load 35 _, type := _, pos := _, after := _, guard := _ } :: _) _ _
           refine wpList_load_mid rfl 35 _ rfl b1 (o1 + j * 9) rfl q.cs _ HX.out Try.underlying35 rfl (by rw [Tr.cs_length]; kernel_rfl) ?_)
        | (with_reducible show wpList _ _ _ ({ dst := none, op := .store 35 (.tmp 5) _, type := _, pos := _, after := _, guard := _ } :: _) _ _
           refine wpList_store_row rfl 35 _ _ rfl wr.heap.size q.cs.toArray rfl rfl 35 Tr.blank.cs.toArray (At.new _ _ _) (by kernel_rfl) rfl hone ?_
           change Exit.then _ _ _ _ (boxW wr q))
        | (with_reducible show wpList _ _ _ ({ dst := some 15, op := .load 35 _, type := _, pos := _, after := _, guard := _ } :: _) _ _
           refine wpList_load_row rfl 35 _ rfl wr.heap.size rfl 35 q.cs.toArray (0, 0) _ HBx.out Try.underlying35 rfl (by kernel_rfl) ?_)
        | fail)
      refine HC.out.mono ?_
      rintro e w3 ⟨rfl, hb3⟩
      have HB3 := Lib.hid (HB2.out.trans (hb3.mono HB2.out.size))
      have HA3 := Lib.hid (At.below HA2.out hb3 HA2.out.lt)
      clear hb3
      obtain ⟨r, hrr⟩ : ∃ r, r = isFormed K q := ⟨_, rfl⟩
      have HRr := Lib.hid hrr
      rw [← hrr]
      clear hrr
      cases r with
      | true =>
        go_wp2_with fail
        exact ⟨⟨j + 1, by omega, by go_num, HB3, Lib.hid (fun t ht => by
          rw [HTk.out] at ht
          rcases List.mem_append.1 ht with ht | ht
          · exact HF.out t ht
          · rw [List.mem_singleton.1 ht]; exact HRr.out.symm)⟩, by simp [intOf]; omega⟩
      | false =>
        have f0 := HA3.out.free 0
        have c0 := HA3.out.cell 0
        go_wp2_with fail
        exact bodyPost_ret (results_row_tmp Try.results6 _ _ w.heap.size 26 #[.slice none 0 0] (0, 0) _ rfl (HA3.out.set 0 _) Try.underlying26 rfl (by kernel_rfl)) rfl ⟨.slice none 0 0, [], 1, rfl, (HB1.out.trans (HB3.out.mono HB1.out.size)).setCell (Nat.le_refl _) _, lks_nil _, Or.inl ⟨rfl, rfl, q, HMm.out, HRr.out.symm⟩⟩
    · obtain rfl : j = l.length := by omega
      have HFl : Hid (∀ t ∈ l, isFormed K t = true) := Lib.hid (by have h := HF.out; rw [List.take_length] at h; exact h)
      have hba : Below wr.heap.size wr (wr.alloc (.cells #[.slice none 0 0] 26)) := (Below.refl _ _).alloc (Nat.le_refl _) _
      have HPl0 := Lib.hid (plan_nil wr)
      obtain ⟨wA, hwA⟩ : ∃ wA, wA = wr.alloc (.cells #[.slice none 0 0] 26) := ⟨_, rfl⟩
      have HWA := Lib.hid hwA
      rw [← hwA] at hba HPl0
      have HBA := Lib.hid (HBw.out.trans (hba.mono HBw.out.size))
      have HJ0 : Hid (MJ wA wr.heap.size w.heap.size l 0 wA (.slice none 0 0) []) := Lib.hid ⟨KeepP.refl _ _ _, Or.inl rfl, HPl0.out, relL_nil, At.below HA.out hba HA.out.lt⟩
      have HGl : Hid (w.heap.size < wr.heap.size) := Lib.hid HA.out.lt
      have HSz : Hid (w.heap.size ≤ wr.heap.size) := Lib.hid HBw.out.size
      clear hba hwA
      obtain ⟨gp, hgp⟩ : ∃ gp, gp = wr.heap.size := ⟨_, rfl⟩
      have hl2 := HL.out
      go_wp2_with fail
      rw [← HWA.out]
      rw [← hgp] at HJ0 HGl HSz HPl0 ⊢
      have HGp := Lib.hid hgp
      clear hgp
      go_loopw [22] (fun i wr => ∃ (j : Nat) (v2 : Value) (L2 : List Tr), j ≤ l.length ∧ i = .int .i64 j ∧ Hid (MJ wA gp w.heap.size l j wr v2 L2)) (fun i _ => l.length - (intOf i).toNat)
      case atStart => exact ⟨0, .slice none 0 0, [], Nat.zero_le _, rfl, HJ0⟩
      case round =>
        clear HJ0 HPl0
        obtain ⟨j, v2, L2, hj, rfl, HJ⟩ := hrel
        have HBr : Hid (Below w.heap.size w wr) := Lib.hid (make_below HBA.out HJ.out.keep HSz.out)
        by_cases hlt : j < l.length
        · obtain ⟨b1, o1, rfl, hb1, hr1⟩ := HR.out (by omega)
          have HX := Lib.hid (range_below (hr1 j hlt) hb1 (Nat.le_refl _) HBr.out)
          have hjz : (0 : Int) ≤ (j : Int) := by omega
          have hjn : (j : Int) < (l.length : Int) := by omega
          have HTk := Lib.hid (foldl_take (f := refL 40) (W := []) hlt)
          have HMo := Lib.hid (foldl_more (refL_len 40) l [] (j + 1))
          have HAdd := Lib.hid (((addIn_of (HI.out _ (List.getElem_mem hlt)) (HFl.out _ (List.getElem_mem hlt)) HSz.out).keep (KeepP.of HBA.out) (Or.inl rfl)).keep HJ.out.keep HJ.out.new)
          have hbx := boxW_next wr l[j]
          have HPr := Lib.hid (HAdd.out.keep (KeepP.of hbx) (Or.inl rfl))
          obtain ⟨q, hq⟩ : ∃ q, q = l[j] := ⟨_, rfl⟩
          rw [← hq] at HX HTk HPr hbx
          have HBx := Lib.hid (boxW_at wr q)
          have HPl2 := Lib.hid (HJ.out.plan.next hbx)
          have HKx : Hid (KeepP gp v2 wr (boxW wr q)) := Lib.hid (KeepP.of hbx)
          have HC := Lib.hid (tAddLooks 40 (Nat.le_refl _) q (boxW wr q) gp v2 L2 _ HPr.out HPl2.out HJ.out.rel)
          have hone := Tr.one q
          clear hb1 hr1 hq hbx
          go_wp2_with (first
            | (with_reducible show wpList _ _ _ ({ dst := some 25, op := .load 35 _, type := _, pos := _, after := _, guard := _ } :: _) _ _
               refine wpList_load_mid rfl 35 _ rfl b1 (o1 + j * 9) rfl q.cs _ HX.out Try.underlying35 rfl (by rw [Tr.cs_length]; kernel_rfl) ?_)
            | (with_reducible show wpList _ _ _ ({ dst := none, op := .store 35 (.tmp 8) _, type := _, pos := _, after := _, guard := _ } :: _) _ _
               refine wpList_store_row rfl 35 _ _ rfl wr.heap.size q.cs.toArray rfl rfl 35 Tr.blank.cs.toArray (At.new _ _ _) (by kernel_rfl) rfl hone ?_
               change Exit.then _ _ _ _ (boxW wr q))
            | (with_reducible show wpList _ _ _ ({ dst := some 26, op := .load 35 _, type := _, pos := _, after := _, guard := _ } :: _) _ _
               refine wpList_load_row rfl 35 _ rfl wr.heap.size rfl 35 q.cs.toArray (0, 0) _ HBx.out Try.underlying35 rfl (by kernel_rfl) ?_)
            | fail)
          refine HC.out.mono ?_
          rintro e w3 ⟨r, v3, L3, rfl, k1, k2, k3, k4, k5⟩
          have hkk : KeepP gp v2 wr w3 := HKx.out.then (Or.inl rfl) k1
          have hnn : NewV wr v2 v3 := NewV.then (w1 := boxW wr q) (Or.inl rfl) HKx.out.size k2
          have HKw := Lib.hid (HJ.out.keep.then HJ.out.new hkk)
          have HNw := Lib.hid (HJ.out.new.then HJ.out.keep.size hnn)
          have HP3 := Lib.hid k3
          have HR3 := Lib.hid k4
          have HL3 := Lib.hid k5
          have HB3 : Hid (At w3 w.heap.size 26 #[.slice none 0 0]) := Lib.hid (hkk.at HJ.out.box (by have := HGl.out; omega) (fun e => by
            have := (HJ.out.plan.rowlt e).1
            have := HGl.out
            omega))
          clear k1 k2 k3 k4 k5 hkk hnn
          cases r with
          | true =>
            go_wp2_with fail
            exact ⟨⟨j + 1, v3, L3, by omega, by go_num, Lib.hid ⟨HKw.out, HNw.out, HP3.out, by rw [HTk.out]; exact HL3.out (by first | rfl | trivial), HB3.out⟩⟩, by simp [intOf]; omega⟩
          | false =>
            have HFx : Hid (4 < (refAll l).length) := Lib.hid (by
              have h1 := HR3.out
              rw [← HTk.out] at h1
              have h2 := of_decide_eq_false h1.symm
              have h3 := HMo.out
              unfold refAll
              omega)
            have f0 := HB3.out.free 0
            have c0 := HB3.out.cell 0
            go_wp2_with fail
            exact bodyPost_ret (results_row_tmp Try.results6 _ _ w.heap.size 26 #[.slice none 0 0] (0, 0) _ rfl (HB3.out.set 0 _) Try.underlying26 rfl (by kernel_rfl)) rfl ⟨.slice none 0 0, [], 10, rfl, (make_below HBA.out HKw.out HSz.out).setCell (Nat.le_refl _) _, lks_nil _, Or.inr ⟨HFl.out, Or.inl ⟨rfl, rfl, HFx.out⟩⟩⟩
        · obtain rfl : j = l.length := by omega
          have HRl : Hid (RelL L2 (refAll l)) := Lib.hid (by have h := HJ.out.rel; rw [List.take_length] at h; exact h)
          have f0 := HJ.out.box.free 0
          have c0 := HJ.out.box.cell 0
          have p0 := HJ.out.plan.box.cell 0
          obtain ⟨A2, cc2, hv2, _, _⟩ := id HJ.out.plan.lks.1
          subst hv2
          have p0 := HJ.out.plan.box.cell 0
          go_wp2_with fail
          have HOf : Hid (∀ t ∈ L2, Tr.Off w.heap.size 40 t) := Lib.hid (fun t ht => by obtain ⟨lo, hi, ho⟩ := (HJ.out.plan.each t ht).own; exact ho.offT HJ.out.box (by decide))
          have hz := HJ.out.box.set 0 (.slice A2 L2.length cc2)
          have hk : ∀ b, b < wr.heap.size → b ≠ w.heap.size → (wr.setCell ⟨w.heap.size, 0, none⟩ (.slice A2 L2.length cc2)).heap[b]? = wr.heap[b]? := fun b _ h => Below.heap_setCell wr ⟨w.heap.size, 0, none⟩ (.slice A2 L2.length cc2) b (fun e => h e)
          have hlk : LksAt (wr.setCell ⟨w.heap.size, 0, none⟩ (.slice A2 L2.length cc2)) (.slice A2 L2.length cc2) L2 := by
            refine ⟨ResRow.pats (base := gp + 1) (ownsRow_setCell_other (a := ⟨w.heap.size, 0, none⟩) HJ.out.plan.row (fun e => ?_) (.slice A2 L2.length cc2)) (fun t ht => ?_), fun t ht => ?_⟩
            · have h : gp < w.heap.size := (HJ.out.plan.rowlt e).1
              have := HGl.out
              omega
            · exact ((HJ.out.plan.each t ht).frame (X := fun b => b = w.heap.size) (by rw [World.size_setCell]; exact Nat.le_refl _) (fun b hb hx => hk b hb hx) (fun b e => by subst e; exact HOf.out t ht)).ins.1
            · exact (HJ.out.plan.each t ht).frame (X := fun b => b = w.heap.size) (by rw [World.size_setCell]; exact Nat.le_refl _) (fun b hb hx => hk b hb hx) (fun b e => by subst e; exact HOf.out t ht)
          exact bodyPost_ret (results_row_tmp Try.results6 _ _ w.heap.size 26 #[(.slice A2 L2.length cc2)] (0, 0) _ rfl (hz) Try.underlying26 rfl (by kernel_rfl)) rfl ⟨(.slice A2 L2.length cc2), L2, 0, rfl, HBr.out.setCell (Nat.le_refl _) _, hlk, Or.inr ⟨HFl.out, Or.inr ⟨rfl, by rw [← HRl.out.length]; exact HJ.out.plan.few, HRl.out⟩⟩⟩

end Go.Proofs.Ytjkcbojlopdonaa
