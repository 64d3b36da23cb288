/- tree.Same: the walk. -/
import Derived.Test.YtjkcbojlopdonaaTreeSame
namespace Go.Proofs.Ytjkcbojlopdonaa
open Go.RowKit
set_option linter.unusedSimpArgs false
set_option linter.unusedVariables false

set_option maxRecDepth 100000 in
set_option maxHeartbeats 8000000 in
theorem tSame (lo hi : Nat) (a b : Tr) (w : World) (ha : Tr.Ins w 40 a) (hb : Tr.Ins w 40 b) (how : OwnW w 40 lo hi a) (hm : massS 40 a ≤ 4000000) :
    Calls Try.prog 24 #[.agg a.cs.toArray, .agg b.cs.toArray] w fun e w' => e = .returned (.bool (sameS 40 40 a b)) ∧ Below w.heap.size w w' := by
  obtain ⟨w1, hw1⟩ : ∃ w1, w1 = (w.alloc (.cells a.cs.toArray 35)).alloc (.cells b.cs.toArray 35) := ⟨_, rfl⟩
  have hb1 : Below w.heap.size w w1 := by rw [hw1]; exact below_two _ _
  have hs1 : w1.heap.size = w.heap.size + 2 := by rw [hw1]; simp
  have hAa : At w1 w.heap.size 35 a.cs.toArray := by rw [hw1]; exact (At.new _ _ _).alloc _
  have hAb : At w1 (w.heap.size + 1) 35 b.cs.toArray := by rw [hw1]; exact at_new' (w.alloc (.cells a.cs.toArray 35)) (w.heap.size + 1) 35 (cs := b.cs.toArray) (by simp)
  have hAa' : At ((w.alloc (.cells a.cs.toArray 35)).alloc (.cells b.cs.toArray 35)) w.heap.size 35 a.cs.toArray := (At.new _ _ _).alloc _
  obtain ⟨w2, hw2⟩ : ∃ w2, w2 = w1.alloc (.cells a.cs.toArray 35) := ⟨_, rfl⟩
  have hb2 : Below w1.heap.size w1 w2 := by rw [hw2]; exact (Below.refl _ _).alloc (Nat.le_refl _) _
  have hA2 : At w2 w1.heap.size 35 a.cs.toArray := by rw [hw2]; exact At.new _ _ _
  have hAb2 : At w2 (w.heap.size + 1) 35 b.cs.toArray := At.below hAb hb2 hAb.lt
  obtain ⟨w3, hw3⟩ : ∃ w3, w3 = w2.alloc (.cells b.cs.toArray 35) := ⟨_, rfl⟩
  have hb3 : Below w2.heap.size w2 w3 := by rw [hw3]; exact (Below.refl _ _).alloc (Nat.le_refl _) _
  have hA3 : At w3 w2.heap.size 35 b.cs.toArray := by rw [hw3]; exact At.new _ _ _
  have hA23 := At.below hA2 hb3 hA2.lt
  obtain ⟨w4, hw4⟩ : ∃ w4, w4 = w3.alloc (.cells #[.slice (some ⟨w1.heap.size, 0, none⟩) 1 1, .slice (some ⟨w2.heap.size, 0, none⟩) 1 1] 48) := ⟨_, rfl⟩
  have hb4 : Below w3.heap.size w3 w4 := by rw [hw4]; exact (Below.refl _ _).alloc (Nat.le_refl _) _
  have hA4 : At w4 w3.heap.size 48 #[.slice (some ⟨w1.heap.size, 0, none⟩) 1 1, .slice (some ⟨w2.heap.size, 0, none⟩) 1 1] := by rw [hw4]; exact At.new _ _ _
  have hA24 := At.below hA23 hb4 hA23.lt
  have hA34 := At.below hA3 hb4 hA3.lt
  have hB12 := hb1.trans (hb2.mono hb1.size)
  have hB : Below w.heap.size w w4 := (hB12.trans (hb3.mono hB12.size)).trans (hb4.mono (Nat.le_trans hB12.size hb3.size))
  have pl : ∀ (g : Nat) (t : Tr), At w4 g 35 t.cs.toArray → Tr.Ins w4 40 t → PL w4 40 (.slice (some ⟨g, 0, none⟩) 1 1) [t] := fun g t hA hi => by
    refine ⟨g, 0, 1, rfl, Nat.one_pos, hA.lt, hA.free 0, fun j hj i u hu => ?_, fun q hq => ?_⟩
    · have hj' : j < 1 := hj
      obtain rfl : j = 0 := by omega
      show World.cell? _ ⟨g, 0 + 0 * 9 + i, none⟩ = some u
      rw [show 0 + 0 * 9 + i = i by omega, hA.cell]
      simpa using hu
    · have : q = t := by simpa using hq
      rw [this]; exact hi
  have HL0 : Hid (Lvl w4 40 lo hi (.slice (some ⟨w3.heap.size, 0, none⟩) 1 1) [⟨.slice (some ⟨w1.heap.size, 0, none⟩) 1 1, [a], .slice (some ⟨w2.heap.size, 0, none⟩) 1 1, [b]⟩]) := Lib.hid (by
    refine ⟨⟨some ⟨w3.heap.size, 0, none⟩, 1, rfl, fun _ => ⟨w3.heap.size, 0, rfl, hA4.lt, fun j hj i u hu => ?_⟩⟩, fun p hp => ?_, fun p hp => ?_, ⟨hi, how.next hB, Nat.le_refl _⟩, ?_, fun p hp => ?_⟩
    · have hj' : j < 1 := hj
      obtain rfl : j = 0 := by omega
      show World.cell? _ ⟨w3.heap.size, 0 + 0 * 2 + i, none⟩ = some u
      rw [show 0 + 0 * 2 + i = i by omega, hA4.cell]
      simpa using hu
    · obtain rfl := List.mem_singleton.1 hp
      exact pl _ _ hA24 (ha.next hB)
    · obtain rfl := List.mem_singleton.1 hp
      exact pl _ _ hA34 (hb.next hB)
    · show ([massS 40 a].sum + 0) ≤ 4000000
      simpa using hm
    · obtain rfl := List.mem_singleton.1 hp
      exact (by decide : 1 ≤ 4000000))
  have HR0 : Hid (bfs 40 [⟨.slice (some ⟨w1.heap.size, 0, none⟩) 1 1, [a], .slice (some ⟨w2.heap.size, 0, none⟩) 1 1, [b]⟩] = sameS 40 40 a b) := Lib.hid (by
    have h := bfs_same 40 [⟨.slice (some ⟨w1.heap.size, 0, none⟩) 1 1, [a], .slice (some ⟨w2.heap.size, 0, none⟩) 1 1, [b]⟩] (fun p hp => by rw [List.mem_singleton.1 hp]; exact Nat.one_pos)
    rw [Bool.eq_iff_iff, h]
    simp)
  have HB := Lib.hid hB
  have HW1 := Lib.hid hw1
  have HW2 := Lib.hid hw2
  have HW3 := Lib.hid hw3
  have HW4 := Lib.hid hw4
  obtain ⟨R, hR⟩ : ∃ R, R = sameS 40 40 a b := ⟨_, rfl⟩
  rw [← hR] at HR0 ⊢
  clear hR hw1 hb1 hs1 hAa hb2 hw2 hA2 hw3 hb3 hA3 hA23 hw4 hb4 hA4 hA24 hA34 hB12 hB pl hm how ha hb
  have HAb := Lib.hid hAb
  have HAb2 := Lib.hid hAb2
  clear hAb hAb2
  go_enter Try.func24, Try.ntmps24
  go_wp2_with (first
    | (with_reducible show wpList _ _ _ ({ dst := some 9, op := .load 35 _, type := _, pos := _, after := _, guard := _ } :: _) _ _
       refine wpList_load_row rfl 35 _ rfl w.heap.size rfl 35 a.cs.toArray (0, 0) _ hAa' Try.underlying35 rfl (by kernel_rfl) ?_)
    | (with_reducible show wpList _ _ _ ({ dst := some 11, op := .load 35 _, type := _, pos := _, after := _, guard := _ } :: _) _ _
       refine wpList_load_row rfl 35 _ rfl (w.heap.size + 1) rfl 35 b.cs.toArray (0, 0) _ HAb2.out Try.underlying35 rfl (by kernel_rfl) ?_)
    | (with_reducible show wpList _ _ _ ({ dst := some 10, op := .buildSlice 22 _ _, type := _, pos := _, after := _, guard := _ } :: _) _ _
       rw [← HW1.out]
       refine wpList_slice_tr rfl _ a rfl rfl ?_
       rw [← HW2.out])
    | (with_reducible show wpList _ _ _ ({ dst := some 12, op := .buildSlice 22 _ _, type := _, pos := _, after := _, guard := _ } :: _) _ _
       refine wpList_slice_tr rfl _ b rfl rfl ?_
       rw [← HW3.out])
    | fail)
  rw [← HW4.out]
  clear hAa'
  go_loopw [5, 6] (fun pv i wr => ∃ (l k : Nat) (P : List Pr), i = .int .i64 l ∧ l + k = 41 ∧ 1 ≤ l ∧ Hid (Lvl wr k lo hi pv P) ∧ Hid (bfs k P = R) ∧ Hid (Below w.heap.size w wr)) (fun _ i _ => 41 - (intOf i).toNat)
  case atStart => exact ⟨1, 40, _, rfl, rfl, Nat.le_refl _, HL0, HR0, HB⟩
  case round =>
    clear HL0 HR0 HB HAb HAb2 HW1 HW2 HW3 HW4
    obtain ⟨l, k, P, rfl, hlk, hl1, HL, HR, HB⟩ := hrel
    obtain ⟨A, cap, rfl, hrow⟩ := HL.out.arg
    have hPl := HL.out.lens
    by_cases h0 : P.length = 0
    · obtain rfl : P = [] := List.eq_nil_of_length_eq_zero h0
      have HRt : Hid (R = true) := Lib.hid (by rw [← HR.out]; exact bfs_nil k)
      have hk4 : k = 0 ∨ 1 ≤ k := by omega
      rcases hk4 with hk4 | hk4
      · have d1 : decide ((l : Int) ≤ 40) = false := decide_eq_false (by omega)
        clear hrow h0
        go_wp2_with fail
        go_ret
        exact ⟨ret_bool HRt.out.symm, HB.out⟩
      · have d1 : decide ((l : Int) ≤ 40) = true := decide_eq_true (by omega)
        clear hrow h0
        go_wp2_with fail
        go_ret
        exact ⟨ret_bool HRt.out.symm, HB.out⟩
    · obtain ⟨k, rfl⟩ : ∃ k', k = k' + 1 := by
        cases k with
        | zero => have := HL.out.zero; subst this; exact absurd rfl h0
        | succ k => exact ⟨k, rfl⟩
      have d1 : decide ((l : Int) ≤ 40) = true := decide_eq_true (by omega)
      have hp0 : (0 : Int) < (P.length : Int) := by omega
      have hp0d : decide ((0 : Int) < (P.length : Int)) = true := decide_eq_true hp0
      have hp0e : decide (0 < P.length) = true := decide_eq_true (by omega)
      have d1e : decide (l ≤ 40) = true := decide_eq_true (by omega)
      have HRow := Lib.hid hrow
      have H0 := Lib.hid h0
      obtain ⟨wo, hwo⟩ : ∃ wo, wo = wr := ⟨_, rfl⟩
      rw [← hwo] at HL HB HRow ⊢
      clear hwo hrow h0
      go_wp2_with fail
      go_loopw [26] (fun i wr => ∃ d : Nat, d ≤ P.length ∧ i = .int .i64 d ∧ Hid (Below wo.heap.size wo wr) ∧ Hid ((P.take d).all (fun p => okL p.ms p.ns) = true)) (fun i _ => P.length - (intOf i).toNat)
      case atStart => exact ⟨0, Nat.zero_le _, rfl, Lib.hid (Below.refl _ _), Lib.hid (by rw [List.take_zero]; rfl)⟩
      case round =>
        obtain ⟨d, hd, rfl, HBd, HAll⟩ := hrel
        by_cases hlt : d < P.length
        · obtain ⟨b1, o1, rfl, hb1, hr1⟩ := HRow.out (by omega)
          have HX := Lib.hid (range_below (hr1 d hlt) hb1 (Nat.le_refl _) HBd.out)
          have hpa := (HL.out.a _ (List.getElem_mem hlt)).next HBd.out
          have hpb := (HL.out.b _ (List.getElem_mem hlt)).next HBd.out
          have hla := HL.out.len (List.getElem_mem hlt)
          have hlb := HL.out.massb _ (List.getElem_mem hlt)
          have hdz : (0 : Int) ≤ (d : Int) := by omega
          have hdn : (d : Int) < (P.length : Int) := by omega
          have HTk : Hid ((P.take (d + 1)).all (fun p => okL p.ms p.ns) = ((P.take d).all (fun p => okL p.ms p.ns) && okL P[d].ms P[d].ns)) := Lib.hid (by rw [List.take_succ_eq_append_getElem hlt, List.all_append]; simp)
          have HNo : Hid (okL P[d].ms P[d].ns = false → P.all (fun p => okL p.ms p.ns) = false) := Lib.hid (fun e => all_take_no hlt e)
          generalize P[d] = p at HX hpa hpb hla hlb HTk HNo
          obtain ⟨u, ms, v, ns⟩ := p
          have hpa : PL wr (k + 1) u ms := hpa
          have hpb : PL wr (k + 1) v ns := hpb
          obtain ⟨_, _, _, hu, _⟩ := id hpa
          obtain ⟨_, _, _, hv, _⟩ := id hpb
          have hone2 : (#[u, v] : Array Value).all (·.oneCell') = true := by rw [hu, hv]; simp [Value.oneCell']
          obtain ⟨w5, hw5⟩ : ∃ w5, w5 = (wr.alloc (.cells #[.slice none 0 0, .slice none 0 0] 48)).setRow wr.heap.size #[u, v] := ⟨_, rfl⟩
          have hb5 : Below wr.heap.size wr w5 := by rw [hw5]; exact ((Below.refl _ _).alloc (Nat.le_refl _) _).trans ((Only.row _ _ _).below (Nat.le_refl _))
          have hA5 : At w5 wr.heap.size 48 #[u, v] := by rw [hw5]; exact At.row (At.new wr 48 #[.slice none 0 0, .slice none 0 0]) _
          have x0 : w5.cell? ⟨wr.heap.size, 0, none⟩ = some u := hA5.cell 0
          have x1 : w5.cell? ⟨wr.heap.size, 1, none⟩ = some v := hA5.cell 1
          have HEq := Lib.hid (tEqRe (k + 1) u v ms ns w5 (hpa.next hb5) (hpb.next hb5) hla hlb)
          have HB5 := Lib.hid (HBd.out.trans (hb5.mono HBd.out.size))
          have HW5 := Lib.hid hw5
          clear hb1 hr1 hpa hpb hla hlb hu hv hw5 hb5 hA5
          go_wp2_with (first
            | (with_reducible show wpList _ _ _ ({ dst := some _, op := .load 48 _, type := _, pos := _, after := _, guard := _ } :: _) _ _
               refine wpList_load_mid rfl 48 _ rfl b1 (o1 + d * 2) rfl [u, v] _ HX.out Try.underlying48 rfl (by kernel_rfl) ?_)
            | (with_reducible show wpList _ _ _ ({ dst := none, op := .store 48 _ _, type := _, pos := _, after := _, guard := _ } :: _) _ _
               refine wpList_store_row rfl 48 _ _ rfl wr.heap.size #[u, v] rfl rfl 48 #[.slice none 0 0, .slice none 0 0] (At.new _ _ _) (by kernel_rfl) rfl hone2 ?_
               rw [← HW5.out])
            | fail)
          refine HEq.out.mono ?_
          rintro e w6 ⟨rfl, hb6⟩
          have HB6 := Lib.hid (HB5.out.trans (hb6.mono HB5.out.size))
          clear hb6 x0 x1
          obtain ⟨r, hrr⟩ : ∃ r, r = okL ms ns := ⟨_, rfl⟩
          have HRr := Lib.hid hrr
          rw [← hrr]
          clear hrr
          cases r with
          | true =>
            go_wp2_with fail
            exact ⟨⟨d + 1, by omega, by go_num, HB6, Lib.hid (by rw [HTk.out, HAll.out]; exact HRr.out.symm)⟩, by simp [intOf]; omega⟩
          | false =>
            have HF : Hid (R = false) := Lib.hid (by
              rw [← HR.out]
              unfold bfs
              rw [HNo.out HRr.out.symm, Bool.false_and, Bool.or_false]
              cases P with
              | nil => exact absurd rfl H0.out
              | cons _ _ => rfl)
            go_wp2_with fail
            go_ret
            exact ⟨ret_bool HF.out.symm, HB.out.trans (HB6.out.mono HB.out.size)⟩
        · obtain rfl : d = P.length := by omega
          have hall : P.all (fun p => okL p.ms p.ns) = true := by have h := HAll.out; rw [List.take_length] at h; exact h
          have HL2 := Lib.hid (HL.out.next HBd.out)
          have HPB := Lib.hid (tPairsBelow k lo hi (.slice A P.length cap) P wr HL2.out.arg (HL2.out.ok hall) HL2.out.own (Nat.le_trans (len_mass (k + 1) P) HL2.out.mass) hPl)
          have HAl := Lib.hid hall
          have HRn : Hid (bfs k (nextP P) = R) := Lib.hid (by
            rw [← HR.out]
            show _ = (P.isEmpty || (P.all (fun p => okL p.ms p.ns) && bfs k (nextP P)))
            rw [hall, Bool.true_and]
            cases P with
            | nil => exact absurd rfl H0.out
            | cons _ _ => rfl)
          clear hall
          go_wp2_with fail
          refine HPB.out.mono ?_
          rintro e w6 ⟨v', rfl, harg, hb6⟩
          have HL3 := Lib.hid (HL2.out.step HAl.out hb6 harg)
          have HB6 := Lib.hid ((HB.out.trans (HBd.out.mono HB.out.size)).trans (hb6.mono (Nat.le_trans HB.out.size HBd.out.size)))
          clear hb6 harg
          go_wp2_with fail
          exact ⟨⟨l + 1, k, nextP P, by go_num, by omega, by omega, HL3, HRn, HB6⟩, by simp [intOf]; omega⟩

end Go.Proofs.Ytjkcbojlopdonaa
