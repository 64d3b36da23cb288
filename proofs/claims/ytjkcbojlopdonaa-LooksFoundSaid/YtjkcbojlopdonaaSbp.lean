/- tree.sameBesideParts; slices.EqualFunc at it. -/
import Derived.Test.YtjkcbojlopdonaaRefSame
import Derived.Test.YtjkcbojlopdonaaBelow
namespace Go.Proofs.Ytjkcbojlopdonaa
open Go.RowKit
set_option linter.unusedSimpArgs false
set_option linter.unusedVariables false

set_option maxRecDepth 100000 in
set_option maxHeartbeats 8000000 in
theorem tSbp (a b : Tr) (hna : a.n = a.parts.length) (hnb : b.n = b.parts.length) (hla : a.parts.length ≤ 9223372036854775807) (hlb : b.parts.length ≤ 9223372036854775807) (w : World) :
    Calls Try.prog 31 #[.agg a.cs.toArray, .agg b.cs.toArray] w fun e w' => e = .returned (.bool (ownSame a b)) ∧ Below w.heap.size w w' := by
  have HA0 := Lib.hid ((At.new w 35 a.cs.toArray).alloc (Obj.cells b.cs.toArray 35))
  have HB0 := Lib.hid (at_new' (w.alloc (Obj.cells a.cs.toArray 35)) (w.heap.size + 1) 35 (cs := b.cs.toArray) (by simp))
  obtain ⟨a0, a5, a6, a7, a8⟩ := At.tr_cell HA0.out
  obtain ⟨b0, b5, b6, b7, b8⟩ := At.tr_cell HB0.out
  obtain ⟨s1, s2, s3, s4⟩ := At.tr_set HA0.out
  obtain ⟨r1, r2, r3, r4⟩ := At.tr_set HB0.out
  rw [hna] at a5
  rw [hnb] at b5
  clear hna hnb
  go_enter Try.func31, Try.ntmps31
  by_cases h0 : a.kind = b.kind
  · have d0 := (int_eq h0).1
    by_cases h1 : a.set.eqb b.set = true
    · have d1 := fun W => setEq W a.set b.set true h1
      by_cases h2 : a.lo = b.lo
      · have d2 := (int_eq h2).1
        by_cases h3 : a.hi = b.hi
        · have d3 := (int_eq h3).1
          by_cases h4 : a.neg = b.neg
          · have d4 := (bool_eq h4).1
            by_cases h5 : a.parts.length = b.parts.length
            · have d5 := (int_eq (show (a.parts.length : Int) = (b.parts.length : Int) by omega)).1
              have HO := Lib.hid (own_yes h0 h1 h2 h3 h4 h5)
              clear h0 h1 h2 h3 h4 h5
              go_wp2_with fail
              go_ret
              exact ⟨ret_bool HO.out.symm, below_two _ _⟩
            · have d5 := (int_ne (show ¬ (a.parts.length : Int) = (b.parts.length : Int) by omega)).1
              have HF := Lib.hid (own_len h5)
              clear h0 h1 h2 h3 h4 h5
              go_wp2_with fail
              go_ret
              exact ⟨ret_bool HF.out.symm, below_two _ _⟩
          · have d4 := (bool_ne h4).1
            have HF := Lib.hid (own_neg h4)
            clear h0 h1 h2 h3 h4
            go_wp2_with fail
            go_ret
            exact ⟨ret_bool HF.out.symm, below_two _ _⟩
        · have d3 := (int_ne h3).1
          have HF := Lib.hid (own_hi h3)
          clear h0 h1 h2 h3
          go_wp2_with fail
          go_ret
          exact ⟨ret_bool HF.out.symm, below_two _ _⟩
      · have d2 := (int_ne h2).1
        have HF := Lib.hid (own_lo h2)
        clear h0 h1 h2
        go_wp2_with fail
        go_ret
        exact ⟨ret_bool HF.out.symm, below_two _ _⟩
    · have hx : a.set.eqb b.set = false := by simpa using h1
      have d1 := fun W => setEq W a.set b.set false hx
      have HF := Lib.hid (own_set hx)
      clear hx
      clear h0 h1
      go_wp2_with fail
      go_ret
      exact ⟨ret_bool HF.out.symm, below_two _ _⟩
  · have d0 := (int_ne h0).1
    have HF := Lib.hid (own_kind h0)
    clear h0
    go_wp2_with fail
    go_ret
    exact ⟨ret_bool HF.out.symm, below_two _ _⟩

/-- Two lists alike, but for the Parts of what is in them. -/
def okL (ms ns : List Tr) : Bool := decide (ms.length = ns.length) && (ms.zip ns).all (fun x => ownSame x.1 x.2)
theorem all_take_no {α : Type} {l : List α} {f : α → Bool} {j : Nat} (h : j < l.length) (hf : f l[j] = false) : l.all f = false := by
  rw [List.all_eq_false]
  exact ⟨l[j], List.getElem_mem h, by rw [hf]; decide⟩
set_option maxRecDepth 100000 in
set_option maxHeartbeats 8000000 in
theorem tEqRe (k : Nat) (u v : Value) (ms ns : List Tr) (w : World) (ha : PL w k u ms) (hb : PL w k v ns) (hl : ms.length ≤ 4000000) (hl2 : ns.length ≤ 4000000) :
    Calls Try.prog 30 #[u, v, .func (.func 31) #[] #[]] w fun e w' => e = .returned (.bool (okL ms ns)) ∧ Below w.heap.size w w' := by
  obtain ⟨k, rfl⟩ : ∃ k', k = k' + 1 := by
    cases k with
    | zero =>
      obtain ⟨_, _, _, _, h0, _, _, _, h⟩ := ha
      exact (h _ (List.getElem_mem h0)).1.elim
    | succ k => exact ⟨k, rfl⟩
  obtain ⟨b1, o1, c1, rfl, hm0, hb1, _, hr1, hin1⟩ := ha
  obtain ⟨b2, o2, c2, rfl, hn0, hb2, _, hr2, hin2⟩ := hb
  have HB1 := Lib.hid hb1
  have HB2 := Lib.hid hb2
  have HR1 := Lib.hid hr1
  have HR2 := Lib.hid hr2
  have HI1 := Lib.hid hin1
  have HI2 := Lib.hid hin2
  clear hb1 hb2 hr1 hr2 hin1 hin2
  go_enter Try.func30, Try.ntmps30
  by_cases hne : ms.length = ns.length
  · have d0 := (int_eq (show (ms.length : Int) = (ns.length : Int) by omega)).2
    have HNe := Lib.hid hne
    clear hne
    go_wp2_with fail
    go_loopw [17] (fun i wr => ∃ j : Nat, j ≤ ms.length ∧ i = .int .i64 j ∧ Hid (((ms.zip ns).take j).all (fun x => ownSame x.1 x.2) = true) ∧ Hid (Below w.heap.size w wr)) (fun i _ => ms.length - (intOf i).toNat)
    case atStart => exact ⟨0, Nat.zero_le _, rfl, Lib.hid (by simp), Lib.hid (Below.refl _ _)⟩
    case round =>
      obtain ⟨j, hj, rfl, HT, HB⟩ := hrel
      by_cases hlt : j < ms.length
      · have hlt2 : j < ns.length := by have := HNe.out; omega
        have hjz : (0 : Int) ≤ (j : Int) := by omega
        have hjn : (j : Int) < (ms.length : Int) := by omega
        have hjm : (j : Int) < (ns.length : Int) := by omega
        have HX := Lib.hid (range_below (HR1.out j hlt) HB1.out (Nat.le_refl _) HB.out)
        have HIx := Lib.hid (HI1.out _ (List.getElem_mem hlt)).1.2.1
        have HIy := Lib.hid (HI2.out _ (List.getElem_mem hlt2)).1.2.1
        have HZ : Hid ((ms.zip ns)[j]'(by rw [List.length_zip]; omega) = (ms[j], ns[j])) := Lib.hid (by simp)
        have hbx := boxW_next wr ms[j]
        have HY := Lib.hid (range_below (HR2.out j hlt2) HB2.out (Nat.le_refl _) (HB.out.trans (hbx.mono HB.out.size)))
        obtain ⟨s, hs⟩ : ∃ s, s = ms[j] := ⟨_, rfl⟩
        obtain ⟨t, ht⟩ : ∃ t, t = ns[j] := ⟨_, rfl⟩
        rw [← hs] at HX HIx HZ HY hbx
        rw [← ht] at HY HIy HZ
        clear hs ht
        have hby := boxW_next (boxW wr s) t
        have HBx := Lib.hid (At.below (boxW_at wr s) hby (by rw [boxW_size]; omega))
        have HBy := Lib.hid (boxW_at (boxW wr s) t)
        have HB2' := Lib.hid (HB.out.trans ((hbx.trans (hby.mono hbx.size)).mono HB.out.size))
        have hsz := boxW_size wr s
        rw [hsz] at HBy
        have honeS := Tr.one s
        have honeT := Tr.one t
        clear hbx hby
        go_wp2_with (first
          | (with_reducible show wpList _ _ _ ({ dst := some 21, op := .load 35 _, type := _, pos := _, after := _, guard := _ } :: _) _ _
             refine wpList_load_mid rfl 35 _ rfl b1 (o1 + j * 9) rfl s.cs _ HX.out Try.underlying35 rfl (by rw [Tr.cs_length]; kernel_rfl) ?_)
          | (with_reducible show wpList _ _ _ ({ dst := none, op := .store 35 (.tmp 8) _, type := _, pos := _, after := _, guard := _ } :: _) _ _
             refine wpList_store_row rfl 35 _ _ rfl wr.heap.size s.cs.toArray rfl rfl 35 Tr.blank.cs.toArray (At.new _ _ _) (by kernel_rfl) rfl honeS ?_
             change Exit.then _ _ _ _ (boxW wr s))
          | (with_reducible show wpList _ _ _ ({ dst := some 25, op := .load 35 _, type := _, pos := _, after := _, guard := _ } :: _) _ _
             refine wpList_load_mid rfl 35 _ rfl b2 (o2 + j * 9) rfl t.cs _ HY.out Try.underlying35 rfl (by rw [Tr.cs_length]; kernel_rfl) ?_)
          | (with_reducible show wpList _ _ _ ({ dst := none, op := .store 35 (.tmp 9) _, type := _, pos := _, after := _, guard := _ } :: _) _ _
             refine wpList_store_row rfl 35 _ _ rfl (boxW wr s).heap.size t.cs.toArray (by first | rfl | (rw [boxW_size]; rfl)) rfl 35 Tr.blank.cs.toArray (At.new _ _ _) (by kernel_rfl) rfl honeT ?_
             change Exit.then _ _ _ _ (boxW (boxW wr s) t))
          | (with_reducible show wpList _ _ _ ({ dst := some 27, op := .load 35 _, type := _, pos := _, after := _, guard := _ } :: _) _ _
             refine wpList_load_row rfl 35 _ rfl wr.heap.size rfl 35 s.cs.toArray (0, 0) _ HBx.out Try.underlying35 rfl (by kernel_rfl) ?_)
          | (with_reducible show wpList _ _ _ ({ dst := some 28, op := .load 35 _, type := _, pos := _, after := _, guard := _ } :: _) _ _
             refine wpList_load_row rfl 35 _ rfl (wr.heap.size + 1) (by first | rfl | (rw [← boxW_size wr s]; rfl)) 35 t.cs.toArray (0, 0) _ HBy.out Try.underlying35 rfl (by kernel_rfl) ?_)
          | fail)
        refine (tSbp s t HIx.out.1 HIy.out.1 (by have := HIx.out; omega) (by have := HIy.out; omega) _).mono ?_
        rintro e w4 ⟨rfl, hb4⟩
        have HB4 := Lib.hid (HB2'.out.trans (hb4.mono HB2'.out.size))
        clear hb4
        obtain ⟨r, hrr⟩ : ∃ r, r = ownSame s t := ⟨_, rfl⟩
        have HRr := Lib.hid hrr
        rw [← hrr]
        clear hrr
        cases r with
        | true =>
          go_wp2_with fail
          exact ⟨⟨j + 1, by omega, by go_num, Lib.hid (by rw [List.take_succ_eq_append_getElem (by rw [List.length_zip]; omega), List.all_append, HT.out, HZ.out]; simp [← HRr.out]), HB4⟩, by simp [intOf]; omega⟩
        | false =>
          have HF : Hid (okL ms ns = false) := Lib.hid (by unfold okL; rw [all_take_no (j := j) (by rw [List.length_zip]; omega) (by rw [HZ.out]; exact HRr.out.symm), Bool.and_false])
          go_wp2_with fail
          go_ret
          exact ⟨ret_bool HF.out.symm, HB4.out⟩
      · obtain rfl : j = ms.length := by omega
        have HF : Hid (okL ms ns = true) := Lib.hid (by
          have h := HT.out
          rw [List.take_of_length_le (by rw [List.length_zip]; have := HNe.out; omega)] at h
          unfold okL; rw [h, decide_eq_true HNe.out]; rfl)
        go_wp2_with fail
        go_ret
        exact ⟨ret_bool HF.out.symm, HB.out⟩
  · have d0 := (int_ne (show ¬ (ms.length : Int) = (ns.length : Int) by omega)).2
    have HF : Hid (okL ms ns = false) := Lib.hid (by unfold okL; rw [decide_eq_false hne, Bool.false_and])
    clear hne
    go_wp2_with fail
    go_ret
    exact ⟨ret_bool HF.out.symm, Below.refl _ _⟩

end Go.Proofs.Ytjkcbojlopdonaa
