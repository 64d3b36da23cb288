/- Sets of the arena; of a nil one. -/
import Derived.Test.YtoicbahkoejhjaaArenaBelow
import Derived.Test.YtoicbahkoejhjaaSetsRow
namespace Go.Proofs.Ytoicbahkoejhjaa
open Go.RowKit Go.Maps
set_option linter.unusedVariables false
set_option linter.unusedSimpArgs false

theorem setsTo_all {ns : List Nd} (hok : ∀ j, j < ns.length → NdOk (ndAt ns j) j) {id : Nat} (hid : id < ns.length) : ∀ m, id + 1 ≤ m → setsTo ns id m = setsTo ns id (id + 1)
  | 0, h => by omega
  | m + 1, h => by
    by_cases e : id + 1 = m + 1
    · rw [e]
    · rw [setsTo_no (Or.inr ?_)]
      · exact setsTo_all hok hid m (by omega)
      · cases hb : belowS ns m (id + 1) id with
        | false => rfl
        | true =>
          have := Rch.le hok ((below_rch hok m (id + 1) id (Nat.lt_succ_self _) hid).1 hb) hid
          omega
theorem setsTo_ok {ns : List Nd} (hf : ∀ j, j < ns.length → NdOk (ndAt ns j) j) {id : Nat} : ∀ (j : Nat), j ≤ ns.length → ∀ (k : Nat) (h : k < (setsTo ns id j).length), (setsTo ns id j)[k].Ok := by
  intro j hj k h
  have hm := List.getElem_mem h
  unfold setsTo at hm
  rw [List.mem_map] at hm
  obtain ⟨i, hi, e⟩ := hm
  have hi := List.mem_range.1 (List.mem_filter.1 hi).1
  have := (hf i (by omega)).1
  rw [e] at this
  exact this
theorem row_cell {w : World} {b o i : Nat} {x : Nd} {u : Value} (h : w.rangeAt b o x.cs) (hu : x.cs[i]? = some u) : w.cell? ⟨b, o + i, none⟩ = some u := h i u hu

set_option maxRecDepth 100000 in
set_option maxHeartbeats 8000000 in
theorem aSets {w : World} {a : Value} {ns : List Nd} {F : Nat → Prop} (i : Int) (h : AA w a ns F) (hn : ns.length ≤ 1000) :
    Calls Try.prog 20 #[a, .int .i64 i] w fun e w' => ∃ A n c l, e = .returned (.slice A n c) ∧ IsSets w' A n l ∧ (0 ≤ i ∧ i < ns.length → l = setsTo ns i.toNat ns.length) ∧ (¬ (0 ≤ i ∧ i < ns.length) → l = []) ∧ Below w.heap.size w w' := by
  have HH : Hid (Calls Try.prog 24 #[a, .int .i64 i] w fun e w' => e = .returned (.bool (aIn i ns.length)) ∧ w' = w) := Lib.hid (aHas i h)
  by_cases hin : 0 ≤ i ∧ i < ns.length
  · have HIn := Lib.hid hin
    obtain ⟨id, rfl⟩ : ∃ id : Nat, i = (id : Int) := ⟨i.toNat, by omega⟩
    have hid : id < ns.length := by omega
    have HV : Hid (aIn (id : Int) ns.length = true) := Lib.hid (by rw [aIn_iff, decide_eq_true HIn.out])
    have HBl := Lib.hid (aBelow id h hid hn)
    obtain ⟨g, m, v, h⟩ := h
    obtain rfl := h.ptr
    obtain ⟨A, c, rfl⟩ := h.row.len
    have HT := Lib.hid h
    have hok : ∀ j, j < ns.length → NdOk (ndAt ns j) j := fun j hj => h.fine.ok j hj
    have HOk := Lib.hid hok
    obtain ⟨i0, hi0, hz0, hz1, hz2⟩ := info_parts info_set
    clear h hok hin
    go_enter Try.func20, Try.ntmps20
    go_wp2_with fail
    refine HH.out.mono ?_
    rintro e w1 ⟨rfl, rfl⟩
    rw [HV.out]
    go_wp2_with fail
    refine HBl.out.mono ?_
    rintro e w2 ⟨gb, rfl, hD2, hgb, hb2⟩
    have HD2 := Lib.hid hD2
    have HB2 := Lib.hid hb2
    have hgb2 := hD2.lt
    clear hD2 hb2
    go_wp2_with fail
    go_loopw [5, 16] (fun v x wr => ∃ j : Nat, j ≤ id + 1 ∧ x = .int .i64 j ∧ Hid (SetsRow wr w2.heap.size v (setsTo ns id j)) ∧ Hid (Below w1.heap.size w1 wr) ∧ Hid (At wr gb 4 (boolRow (fun k => belowS ns k (id + 1) id) (id + 1))) ∧ Hid (w2.heap.size ≤ wr.heap.size)) (fun _ x _ => id + 1 - (intOf x).toNat)
    case atStart => exact ⟨0, Nat.zero_le _, rfl, Lib.hid (SetsRow.nil _ _), HB2, HD2, Lib.hid (Nat.le_refl _)⟩
    case round =>
      clear HD2 HB2
      obtain ⟨j, hj, rfl, HS, HB, HD, HW⟩ := hrel
      by_cases hjl : j < id + 1
      · have hj0 : (0 : Int) ≤ (j : Int) := by omega
        have hj1 : (j : Int) < (id : Int) + 1 := by omega
        have hjn : j < ns.length := by omega
        have hjn1 : (j : Int) < (ns.length : Int) := by omega
        have dj : wr.cell? ⟨gb, j, none⟩ = some (.bool (belowS ns j (id + 1) id)) := boolRow_at HD.out hjl
        cases hm : belowS ns j (id + 1) id with
        | false =>
          rw [hm] at dj
          have HM : Hid (setsTo ns id (j + 1) = setsTo ns id j) := Lib.hid (setsTo_no (Or.inr hm))
          clear hm
          go_wp2_with fail
          refine ⟨⟨j + 1, by omega, by go_num, Lib.hid (by rw [HM.out]; exact HS.out), HB, HD, HW⟩, by simp [intOf] <;> omega⟩
        | true =>
          rw [hm] at dj
          have HMj := Lib.hid hm
          have HT1 := Lib.hid (HT.out.next HB.out)
          have c0 := HT1.out.box.cell 0
          obtain ⟨_, _, e1, _, h3⟩ := HT1.out.row.nds (by omega)
          injection e1 with e1 e7 e3
          subst e1 e3
          clear e7
          obtain ⟨b, off, rfl, hb, hr⟩ := h3 (by omega)
          have HR := Lib.hid (hr j hjn)
          have HOj := Lib.hid (HOk.out j hjn)
          obtain ⟨x, hx⟩ : ∃ y, ndAt ns j = y := ⟨_, rfl⟩
          rw [hx] at HR HOj
          have HX := Lib.hid hx
          have k0 : wr.cell? ⟨b, off + j * 8, none⟩ = some (.int .i64 x.kind) := row_cell (i := 0) HR.out rfl
          clear h3 hr hx hm
          by_cases hk : x.kind = 2
          · have HM : Hid (setsTo ns id (j + 1) = setsTo ns id j ++ [x.set]) := Lib.hid (by rw [setsTo_yes (by rw [HX.out]; exact hk) HMj.out, HX.out])
            rw [hk] at k0
            have k1 : wr.cell? ⟨b, off + j * 8 + 1, none⟩ = some (.int .u64 x.set.w0) := row_cell (i := 1) HR.out rfl
            have k2 : wr.cell? ⟨b, off + j * 8 + 2, none⟩ = some (.int .u64 x.set.w1) := row_cell (i := 2) HR.out rfl
            have k3 : wr.cell? ⟨b, off + j * 8 + 3, none⟩ = some (.int .u64 x.set.w2) := row_cell (i := 3) HR.out rfl
            have k4 : wr.cell? ⟨b, off + j * 8 + 4, none⟩ = some (.int .u64 x.set.w3) := row_cell (i := 4) HR.out rfl
            have hle : (setsTo ns id j).length ≤ j := setsTo_le ns id j
            have HAl := Lib.hid (HB.out.alloc HB.out.size (.cells #[.int .u64 x.set.w0, .int .u64 x.set.w1, .int .u64 x.set.w2, .int .u64 x.set.w3] 32))
            have hs5 := HB.out.size
            clear hk
            go_wp2_with (first
              | (at_builtin
                 refine wpList_append_own _ rfl _ _ _ rfl w2.heap.size 32 i0 _ 4 32 Try.underlying52 hi0 hz0 hz1 hz2 rfl (by omega) u5 _ _ rfl (HS.out.alloc _) ⟨_, 0, none⟩ 1 1 (quad x.set) rfl rfl ?c1 ?c2 ?c3 ?c4 ?c5 ?_
                 case c1 => exact (World.news_of_block (At.new _ _ _))
                 case c2 => simp [quad, Value.oneCell']
                 case c3 => unfold maxLen; omega
                 case c4 => omega
                 case c5 => have := HW.out; simp; omega
                 intro v' w6 hown6 hg6 _)
              | fail)
            refine ⟨⟨j + 1, by omega, by go_num, Lib.hid ?_, Lib.hid (HAl.out.grown hg6 (by simp; omega) (fun g hg => Nat.le_trans (by omega) (HS.out.low g hg))), Lib.hid ?_, Lib.hid ?_⟩, by simp [intOf] <;> omega⟩
            · rw [HM.out]; exact SetsRow.push hown6
            · exact (hg6.block gb (by have := HD.out.lt; simp; omega) (fun e => by have := HS.out.low gb e.symm; omega)).trans (HD.out.alloc _)
            · have h1 := hg6.size; rw [World.size_alloc] at h1; have := HW.out; omega
          · have HM : Hid (setsTo ns id (j + 1) = setsTo ns id j) := Lib.hid (setsTo_no (Or.inl (by rw [HX.out]; exact hk)))
            have hkb := (int_ne hk).1
            clear hk
            go_wp2_with fail
            refine ⟨⟨j + 1, by omega, by go_num, Lib.hid (by rw [HM.out]; exact HS.out), HB, HD, HW⟩, by simp [intOf] <;> omega⟩
      · obtain rfl : j = id + 1 := by omega
        obtain ⟨As, cs, rfl, hI⟩ := HS.out.isSets (by have := setsTo_le ns id (id + 1); omega) (setsTo_ok HOk.out (id + 1) (by omega))
        have HI := Lib.hid hI
        have HL : Hid (setsTo ns id (id + 1) = setsTo ns id ns.length) := Lib.hid (setsTo_all HOk.out hid ns.length (by omega)).symm
        clear hI
        go_wp2_with fail
        go_ret
        refine ⟨_, _, _, _, rfl, HI.out, fun _ => by rw [Int.toNat_natCast]; exact HL.out, fun h => absurd HIn.out h, HB.out⟩
  · have HIn := Lib.hid hin
    have HV : Hid (aIn i ns.length = false) := Lib.hid (by rw [aIn_iff, decide_eq_false HIn.out])
    clear hin
    go_enter Try.func20, Try.ntmps20
    go_wp2_with fail
    refine HH.out.mono ?_
    rintro e w1 ⟨rfl, rfl⟩
    rw [HV.out]
    go_wp2_with fail
    go_ret
    exact ⟨_, _, _, [], rfl, ⟨rfl, by omega, fun k hk => absurd hk (Nat.not_lt_zero _), fun q => absurd q (by omega)⟩, fun q => absurd q HIn.out, fun _ => rfl, Below.refl _ _⟩

set_option maxRecDepth 100000 in
set_option maxHeartbeats 4000000 in
theorem nilSets (w : World) (i : Int) : Calls Try.prog 20 #[.pointer none, .int .i64 i] w fun e w' => ∃ A c, e = .returned (.slice A 0 c) ∧ Below w.heap.size w w' := by
  have HH := Lib.hid (nilHas i w)
  go_enter Try.func20, Try.ntmps20
  go_wp2_with fail
  refine HH.out.mono ?_
  rintro e w1 ⟨rfl, rfl⟩
  go_wp2_with fail
  go_ret
  exact ⟨none, 0, rfl, Below.refl _ _⟩

end Go.Proofs.Ytoicbahkoejhjaa
