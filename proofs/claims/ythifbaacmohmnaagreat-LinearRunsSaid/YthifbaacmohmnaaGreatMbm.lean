/- Joined: GnOr, LwNode. -/
import Derived.Test.YthifbaacmohmnaaGreatMbk
import Derived.Test.YthifbaacmohmnaaGreatMbl
import Derived.Test.YthifbaacmohmnaaGreatMbh
import Derived.Test.YthifbaacmohmnaaGreatGnAnd
import Derived.Deep.OwnRows
/- norm.Or of any nodes of an arena that may get full. -/
namespace Go.Proofs.YthifbaacmohmnaaGreat
open Go.RowKit
set_option linter.unusedSimpArgs false
set_option linter.unusedVariables false

section
variable {AA : World → Value → List Nd → (Nat → Prop) → Prop}
set_option maxRecDepth 100000 in
set_option maxHeartbeats 16000000 in
theorem gnOr (S : ArenaFix AA) {w : World} {a v : Value} {ns : List Nd} {F : Nat → Prop} (l : List Int) (h : AA w a ns F) (hv : ListAt w v l) (hI : ∀ x ∈ l, isIn ns x) (hll : l.length ≤ 20000) :
    Calls Tryz.prog 87 #[a, v] w (Got AA w a ns F fun ms r => ParT ns 4 l ms r) := by
  have hmx := S.max h
  have HTh := Lib.hid (nThere S.toArenaMid l h hv hll hI)
  have HA := Lib.hid h
  have HFi := Lib.hid (S.fine h)
  have HI := Lib.hid hI
  have HMx := Lib.hid hmx
  have hb1 : Below w.heap.size w (w.alloc (.cells (setC noSt) 46)) := (Below.refl _ _).alloc (Nat.le_refl _) _
  have HMe : Hid (Calls Tryz.prog 125 #[a, .int .i64 4, v] (w.alloc (.cells #[.int .u64 0, .int .u64 0, .int .u64 0, .int .u64 0] 46)) fun e w' => ∃ v' ms, e = .returned v' ∧ IdRow w' (w.heap.size + 1) v' ms ∧ ms.Nodup ∧ (∀ y, y ∈ ms ↔ ∃ x ∈ l, y ∈ mem ns 4 x) ∧ Below (w.heap.size + 1) (w.alloc (.cells (setC noSt) 46)) w') := Lib.hid (by
    have := nMembers S.toArenaMid 4 (Or.inl rfl) l (S.next h hb1) (hv.next hb1) hll hI
    rw [World.size_alloc] at this
    exact this)
  have HB1 := Lib.hid hb1
  obtain ⟨gp, rfl⟩ := S.ptr h
  obtain ⟨i0, hi0, hi1, hi2, hi3⟩ := info_parts info_intR
  clear h hv hI hb1
  go_enter Tryz.func87, Tryz.ntmps87
  go_wp2_with fail
  refine HTh.out.mono ?_
  rintro e w1 ⟨rfl, hw1⟩
  obtain rfl : w = w1 := hw1.symm
  go_wp2_with fail
  refine HMe.out.mono ?_
  rintro e w2 ⟨v2, ms, rfl, hr2, hnd, hiff, hb2⟩
  have HCol : Hid (Coll ns 4 l ms) := Lib.hid ⟨HI.out, hnd, hiff⟩
  have hB2 : Below w.heap.size w w2 := HB1.out.trans (hb2.mono (Nat.le_succ _))
  have hS2 : w.heap.size + 1 ≤ w2.heap.size := by have := hb2.size; simpa using this
  have HO2 : Hid (OrI w ns 4 ms w.heap.size 0 (.slice none 0 0) v2 noSt w2) := Lib.hid ⟨IdRow.nil _ _, hr2, Or.inl rfl, (hb2.block _ (Nat.lt_succ_self _)).trans (At.new w _ _), BytesOf.nil, (by intro y hy; cases hy), hB2, hS2⟩
  obtain ⟨A2, c2, rfl⟩ := hr2.len
  have hmsb : ms.length ≤ 20000 := by have := nodup_few HCol.out.nd (fun z hz => (HCol.out.innF HFi.out (Or.inl rfl) hz).1); have := HMx.out; omega
  clear hr2 hnd hiff hb2 hB2 hS2 HTh HMe
  go_wp2_with fail
  go_loopw [6, 19] (fun v6 x wr => ∃ (j : Nat) (U : St), j ≤ ms.length ∧ x = .int .i64 j ∧ Hid (OrI w ns 4 ms w.heap.size j v6 (.slice A2 ms.length c2) U wr)) (fun _ x _ => ms.length - (intOf x).toNat)
  case atStart => exact ⟨0, noSt, Nat.zero_le _, rfl, HO2⟩
  case round =>
    clear HO2 HB1
    obtain ⟨j, U, hj, rfl, HO⟩ := hrel
    by_cases hjl : j < ms.length
    · have hjz : (0 : Int) ≤ (j : Int) := by omega
      have hjn : (j : Int) < (ms.length : Int) := by omega
      obtain ⟨g2, cap2, e2, hcs⟩ := HO.out.src.form (by omega)
      injection e2 with e2 e4 e3
      clear e4
      subst e2 e3
      have cy := hcs j hjl
      obtain ⟨y, hy⟩ : ∃ y, y = ms[j] := ⟨_, rfl⟩
      rw [← hy] at cy
      have HYe := Lib.hid hy
      have hym : y ∈ ms := by rw [hy]; exact List.getElem_mem _
      have HYm := Lib.hid hym
      have hyi := (HCol.out.innF HFi.out (Or.inl rfl) hym).1
      have HYi := Lib.hid hyi
      have hyI : I64 y := by unfold isIn at hyi; unfold I64; omega
      have HN := Lib.hid (S.nodeIn y (S.next HA.out HO.out.below) hyI)
      have hdx : decide (0 ≤ y ∧ y < (ns.length : Int)) = true := decide_eq_true hyi
      clear hcs hy hym hyi
      go_wp2_with fail
      refine HN.out.mono ?_
      rintro e w4 ⟨u, rfl, hu, hb4⟩
      have hu := hu HYi.out
      rw [hdx]
      have HU := Lib.hid hu
      have HKx : Hid (kd ns y = u.kind) := Lib.hid (by unfold kd; rw [← hu])
      have HXb := Lib.hid (boxN_at w4 u)
      have hb5 := hb4.trans ((boxN_next w4 u).mono hb4.size)
      have HO5 := Lib.hid (HO.out.next hb5)
      have HIA := Lib.hid (nIsAll S.toArenaMid y u (S.next HA.out HO5.out.below) HYi.out hu)
      have hcl : u.cs.length = 8 := rfl
      clear hu hb4 hb5 hdx cy
      go_wp2_with (first
        | (with_reducible show wpList _ _ _ ({ dst := none, op := .store 61 _ _, type := _, pos := _, after := _, guard := _ } :: _) _ _
           refine wpList_store_row rfl 61 _ _ rfl w4.heap.size u.cs.toArray rfl rfl 61 Nd.zero.cs.toArray (At.new _ _ _) (by kernel_rfl) rfl (Nd.one u) ?_
           first | change wpList _ _ _ _ _ (boxN w4 u) | change Exit.then _ _ _ _ (boxN w4 u))
        | (with_reducible show wpList _ _ _ ({ dst := _, op := .load 61 (.tmp 9), type := _, pos := _, after := _, guard := _ } :: _) _ _
           refine wpList_load_row_want (by rfl) 61 _ rfl w4.heap.size rfl 61 u.cs.toArray (0, 0) _ HXb.out Tryz.underlying61 rfl (by rw [List.size_toArray, Nd.cs_length]; kernel_rfl) ?_)
        | fail)
      refine HIA.out.mono ?_
      rintro e w5 ⟨rfl, hb5⟩
      have HO6 := Lib.hid (HO5.out.next hb5)
      have HX6 : Hid (At w5 w4.heap.size 61 u.cs.toArray) := Lib.hid ((hb5.block _ HXb.out.lt).trans HXb.out)
      clear hb5
      by_cases hal : isAl ns y = true
      · have HAl := Lib.hid hal
        rw [hal]
        clear hal
        go_wp2_with fail
        go_ret
        exact Got.stay S.toArenaMid HA.out HO6.out.below HYi.out (or_top HFi.out HCol.out HYm.out HAl.out)
      · have HAl : Hid (topB ns 4 y = false) := Lib.hid (by show isAl ns y = false; cases q : isAl ns y with | false => rfl | true => exact absurd q hal)
        have hal' : isAl ns y = false := HAl.out
        rw [hal']
        clear hal hal'
        obtain ⟨c0, c1, c2, c3, c4, c5, c6, c7⟩ := Nd.cells HX6.out
        by_cases hk2 : u.kind = 2
        · have HK2 : Hid (kd ns y = 2) := Lib.hid (HKx.out.trans hk2)
          rw [hk2] at c0
          have hset := HO6.out.set
          have s0 : w5.cell? ⟨w.heap.size, 0, none⟩ = some (.int .u64 U.w0) := hset.cell 0
          have s1 : w5.cell? ⟨w.heap.size, 1, none⟩ = some (.int .u64 U.w1) := hset.cell 1
          have s2 : w5.cell? ⟨w.heap.size, 2, none⟩ = some (.int .u64 U.w2) := hset.cell 2
          have s3 : w5.cell? ⟨w.heap.size, 3, none⟩ = some (.int .u64 U.w3) := hset.cell 3
          have hsok : u.set.Ok := by have := (fine_nd HFi.out HYi.out).2; rw [← HU.out] at this; exact this.2.1
          have HUn := Lib.hid (setUnion U u.set HO6.out.bytes.1 hsok w5)
          have HBy : Hid (BytesOf ns 4 (ms.take j ++ [y]) (U.or u.set)) := Lib.hid (by
            have := HO6.out.bytes.or HK2.out (by rw [← HU.out]; exact hsok)
            rw [← HU.out] at this; exact this)
          clear hk2 hset hsok
          go_wp2_with fail
          refine HUn.out.mono ?_
          rintro e w6 ⟨rfl, hb6⟩
          have HO7 := Lib.hid (HO6.out.next hb6)
          have hset := HO7.out.set
          clear hb6 s0 s1 s2 s3
          go_wp2_with (first
            | (with_reducible show wpList _ _ _ ({ dst := none, op := .store 46 _ _, type := _, pos := _, after := _, guard := _ } :: _) _ _
               refine wpList_store_row rfl 46 _ _ rfl w.heap.size (setC (U.or u.set)) rfl rfl 46 (setC U) hset (by kernel_rfl) rfl (setC_one _) ?_
               obtain ⟨w7, hw7⟩ : ∃ w7, w7 = w6.setRow w.heap.size (setC (U.or u.set)) := ⟨_, rfl⟩
               rw [← hw7])
            | fail)
          go_roundw
          case rel => exact ⟨j + 1, U.or u.set, by omega, by go_num, Lib.hid (by exact HO7.out.bytesStep hjl (Or.inl rfl) (by rw [← HYe.out]; exact HK2.out) (by rw [← HYe.out]; exact HBy.out))⟩
          case measure => simp [intOf]; omega
        · have HK2 : Hid (kd ns y ≠ 2) := Lib.hid (fun q => hk2 (HKx.out.symm.trans q))
          have hk2b := (int_ne hk2).1
          clear hk2
          by_cases hk0 : u.kind = 0
          · have HK0 : Hid (unitB ns 4 y = true) := Lib.hid (by show isNo ns y = true; exact decide_eq_true (HKx.out.trans hk0))
            rw [hk0] at c0 hk2b
            clear hk0
            go_wp2_with fail
            go_roundw
            case rel => exact ⟨j + 1, U, by omega, by go_num, Lib.hid (by exact HO6.out.skipStep hjl (by rw [← HYe.out]; exact HK2.out) (by rw [← HYe.out]; exact HK0.out) (by rw [← HYe.out]; exact HAl.out))⟩
            case measure => simp [intOf]; omega
          · have HK0 : Hid (unitB ns 4 y = false) := Lib.hid (by show isNo ns y = false; exact decide_eq_false (fun q => hk0 (HKx.out.symm.trans q)))
            have hk0b := (int_ne hk0).2
            have hk0c := (int_ne hk0).1
            have hal2 : Below w5.heap.size w5 (w5.alloc (.cells #[.int .i64 y] 3)) := (Below.refl _ _).alloc (Nat.le_refl _) _
            have HO7 := Lib.hid (HO6.out.next hal2)
            have HRw := Lib.hid HO7.out.row
            have hZ7 := HO7.out.size
            have hfl : ((ms.take j).filter (otherB ns 4)).length ≤ 20000 := by
              have := List.length_filter_le (otherB ns 4) (ms.take j)
              rw [List.length_take] at this
              omega
            clear hk0 hal2
            go_wp2_with (first
              | (at_builtin
                 refine wpList_append_own_at _ rfl _ _ _ rfl (w.heap.size + 1) 3 i0 _ 1 8 Tryz.underlying80 hi0 hi1 hi2 hi3 rfl (by omega) u6 _ _ rfl HRw.out ⟨_, 0, none⟩ 1 1 [.int .i64 y] rfl rfl (cell_one_new _ _ _) ?c2 ?c3 ?c4 ?c5 ?_
                 case c2 => simp [Value.oneCell']
                 case c3 => unfold maxLen; omega
                 case c4 => omega
                 case c5 => exact hZ7
                 intro v' w8 hown8 hg8 _ hat8)
              | fail)
            go_roundw
            case rel => exact ⟨j + 1, U, by omega, by go_num, Lib.hid (by exact HO7.out.otherStep hjl (by rw [← HYe.out]; exact HK2.out) (by rw [← HYe.out]; exact HK0.out) (by rw [← HYe.out]; exact HAl.out) (by rw [← HYe.out]; exact hown8) hg8 hat8)⟩
            case measure => simp [intOf]; omega
    · obtain rfl : j = ms.length := by omega
      obtain ⟨hrow, hsrc, hap, hset, hby, htop, hbel, hsz⟩ := HO.out
      rw [List.take_length] at hrow hby htop
      obtain ⟨ot, hot⟩ : ∃ ot, ot = ms.filter (otherB ns 4) := ⟨_, rfl⟩
      rw [← hot] at hrow
      have HOt := Lib.hid hot
      have HRow := Lib.hid hrow
      have HBy := Lib.hid hby
      have HTop := Lib.hid htop
      have HBel := Lib.hid hbel
      have HSz := Lib.hid hsz
      have hotl : ot.length ≤ 20000 := by
        have := List.length_filter_le (otherB ns 4) ms
        rw [← hot] at this
        omega
      have s0 : wr.cell? ⟨w.heap.size, 0, none⟩ = some (.int .u64 U.w0) := hset.cell 0
      have s1 : wr.cell? ⟨w.heap.size, 1, none⟩ = some (.int .u64 U.w1) := hset.cell 1
      have s2 : wr.cell? ⟨w.heap.size, 2, none⟩ = some (.int .u64 U.w2) := hset.cell 2
      have s3 : wr.cell? ⟨w.heap.size, 3, none⟩ = some (.int .u64 U.w3) := hset.cell 3
      have HSet := Lib.hid hset
      have HCt := Lib.hid (setCount U hby.1 wr)
      obtain ⟨A6, c6, e6⟩ := hrow.len
      subst e6
      clear hrow hsrc hap hset hby htop hbel hsz hot HO
      go_wp2_with fail
      refine HCt.out.mono ?_
      rintro e w5 ⟨rfl, hb5⟩
      have HB5 := Lib.hid (HBel.out.trans (hb5.mono HBel.out.size))
      have HRow5 := Lib.hid (HRow.out.next hb5)
      have HSz5 : Hid (w.heap.size + 1 ≤ w5.heap.size) := Lib.hid (Nat.le_trans HSz.out hb5.size)
      have hset5 : At w5 w.heap.size 46 (setC U) := (hb5.block _ HSet.out.lt).trans HSet.out
      have HA5 := Lib.hid (S.next HA.out HB5.out)
      obtain ⟨n, hn⟩ : ∃ n, n = U.list.length := ⟨_, rfl⟩
      rw [← hn]
      have HNn := Lib.hid hn
      clear s0 s1 s2 s3 hb5 hn
      by_cases hn0 : n = 0
      · have HEm : Hid (∀ b, b < 256 → U.has b = false) := Lib.hid (list_none.1 (by rw [← HNn.out]; exact hn0))
        subst hn0
        by_cases ho0 : ot.length = 0
        · have HOe : Hid (ms.filter (otherB ns 4) = []) := Lib.hid (by rw [← HOt.out]; exact List.length_eq_zero_iff.1 ho0)
          have HP := Lib.hid (gNone S.toArenaAny HA5.out)
          have ho0' : ((ot.length : Int) == 0) = true := by rw [ho0]; rfl
          rw [ho0]
          clear ho0 ho0'
          go_wp2_with fail
          refine HP.out.mono ?_
          rintro e w6 gr
          obtain ⟨r, _, _, rfl, _⟩ := id gr
          have HG : Hid (Got AA w (.pointer (some ⟨gp, 0, none⟩)) ns F (fun ms r => ParT ns 4 l ms r) (.returned (.int .i64 r)) w6) := Lib.hid ((gr.from HB5.out).mono (fun more r q hfm hi => or_none HFi.out hfm HCol.out HBy.out HEm.out HOe.out hi q) S.toArenaMid)
          clear gr
          go_wp2_with fail
          go_ret
          exact HG.out
        · have HNs : Hid (0 < ns.length) := Lib.hid (by
            obtain ⟨z, hm⟩ : ∃ z, z ∈ ot := ⟨ot[0]'(by omega), List.getElem_mem _⟩
            rw [HOt.out] at hm
            have := (HCol.out.innF HFi.out (Or.inl rfl) (List.mem_filter.1 hm).1).1
            unfold isIn at this; omega)
          have hob : ((ot.length : Int) == 0) = false := (int_ne (by omega)).1
          have HJ := Lib.hid (gJoined S 4 (Or.inl rfl) ot HA5.out HRow5.out (by omega) (fun b e q => by have := (HRow5.out.lt e).1; have := S.low HA.out b q; omega) (fun x hx => Or.inl (by rw [HOt.out] at hx; exact (HCol.out.innF HFi.out (Or.inl rfl) (List.mem_filter.1 hx).1).1)) HNs.out (by omega))
          clear ho0
          go_wp2_with fail
          refine HJ.out.mono ?_
          rintro e w6 jp
          obtain ⟨r, _, _, rfl, _⟩ := id jp
          have HG : Hid (Got AA w (.pointer (some ⟨gp, 0, none⟩)) ns F (fun ms r => ParT ns 4 l ms r) (.returned (.int .i64 r)) w6) := Lib.hid (joined_got S.toArenaMid (m1 := []) (L := ot) (fun b q => Or.inl q) (OffF.of HB5.out) (fun b e => by have := (HRow5.out.lt e).1; omega) (by rw [List.append_nil]; exact jp) (fun more r hfm hp _ => or_rest HFi.out (m1 := []) HCol.out HBy.out HEm.out (by rw [← HOt.out]; exact hp)))
          clear jp
          go_wp2_with fail
          go_ret
          exact HG.out
      · have HNe : Hid (U.list.length ≠ 0) := Lib.hid (by rw [← HNn.out]; exact hn0)
        have HMe2 : Hid (∃ y, y ∈ ms) := Lib.hid (Classical.byContradiction fun hno => HNe.out (list_none.2 (fun b hb256 => by
          cases e : U.has b with
          | false => rfl
          | true =>
            have := HBy.out.2 b hb256
            rw [show decide ((4 : Int) = 5) = false from rfl, Bool.bne_false] at this
            obtain ⟨y, hy, _⟩ := this.1 e
            exact absurd ⟨y, hy⟩ hno)))
        have hnz : (0 : Int) < (n : Int) := by omega
        have hnz2 : decide ((0 : Int) < (n : Int)) = true := decide_eq_true hnz
        have s0 : w5.cell? ⟨w.heap.size, 0, none⟩ = some (.int .u64 U.w0) := hset5.cell 0
        have s1 : w5.cell? ⟨w.heap.size, 1, none⟩ = some (.int .u64 U.w1) := hset5.cell 1
        have s2 : w5.cell? ⟨w.heap.size, 2, none⟩ = some (.int .u64 U.w2) := hset5.cell 2
        have s3 : w5.cell? ⟨w.heap.size, 3, none⟩ = some (.int .u64 U.w3) := hset5.cell 3
        have HP := Lib.hid (gBytes S.toArenaAny U HA5.out HBy.out.1)
        clear hn0 hset5
        go_wp2_with fail
        refine HP.out.mono ?_
        rintro e w6 ⟨b, m1, F1, rfl, g1, g2, g3, g4⟩
        have HNb : Hid (b = -1 ∨ (isIn (ns ++ m1) b ∧ ndAt (ns ++ m1) b.toNat = ⟨2, U, 0, 0, false⟩)) := Lib.hid (g4.imp id (fun z => ⟨z.1, by
          rcases z.2 with ⟨q, _⟩ | ⟨_, q⟩
          · exact absurd q HNe.out
          · exact q⟩))
        have HF1 := Lib.hid (S.fine g1)
        have hot6 : ∀ c, F c → (Value.slice A6 ot.length c6).ownBlock ≠ some c := fun c q e => by have := (HRow5.out.lt e).1; have := S.low HA.out c q; omega
        have hr6 := HRow5.out.off g3 hot6
        have hal : Below w6.heap.size w6 (w6.alloc (.cells #[.int .i64 b] 3)) := (Below.refl _ _).alloc (Nat.le_refl _) _
        have HRw := Lib.hid (hr6.next hal)
        have HAl := Lib.hid hal
        have HG1 := Lib.hid g1
        have HG2 := Lib.hid g2
        have HO6 : Hid (OffF F w w6) := Lib.hid ((OffF.of HB5.out).off g3 (fun b q => Or.inl q))
        have HS6 : Hid (w5.heap.size ≤ w6.heap.size) := Lib.hid g3.size
        have hz7 : w.heap.size + 1 ≤ (w6.alloc (.cells #[.int .i64 b] 3)).heap.size := by rw [World.size_alloc]; have := HSz5.out; have := HS6.out; omega
        clear g1 g2 g3 g4 hot6 hr6 hal s0 s1 s2 s3
        go_wp2_with (first
          | (at_builtin
             refine wpList_append_own_at _ rfl _ _ _ rfl (w.heap.size + 1) 3 i0 _ 1 8 Tryz.underlying80 hi0 hi1 hi2 hi3 rfl (by omega) (.slice A6 ot.length c6) _ _ rfl HRw.out ⟨_, 0, none⟩ 1 1 [.int .i64 b] rfl rfl (cell_one_new _ _ _) ?c2 ?c3 ?c4 ?c5 ?_
             case c2 => simp [Value.oneCell']
             case c3 => unfold maxLen; omega
             case c4 => omega
             case c5 => exact hz7
             intro v8 w8 hown8 hg8 _ hat8
             have hr8 : IdRow w8 (w.heap.size + 1) v8 (ot ++ [b]) := by
               unfold IdRow
               rw [List.length_append]
               unfold idL
               rw [List.map_append]
               exact hown8
             obtain ⟨A8, c8, e8⟩ := hr8.len
             rw [List.length_append, List.length_singleton] at e8
             have HR8 := Lib.hid hr8
             have HG8 := Lib.hid hg8
             have HAt8 := Lib.hid hat8
             clear hown8 hg8 hat8 hr8
             subst e8)
          | fail)
        have hfl : ∀ c, F1 c → (Value.slice A6 ot.length c6).ownBlock ≠ some c := fun c q e => by
          rcases HG2.out c q with z | z
          · have := (HRow5.out.lt e).1; have := S.low HA.out c z; omega
          · have := (HRow5.out.lt e).2; omega
        have hA8 : AA w8 (.pointer (some ⟨gp, 0, none⟩)) (ns ++ m1) F1 := S.keep (S.next HG1.out HAl.out) (fun c q => HG8.out.block c (by have := S.low HG1.out c q; have := HAl.out.size; omega) (fun e => hfl c q e.symm))
        have hO8 : OffF F w w8 := (HO6.out.then HAl.out).grown HG8.out (fun c e => Or.inr (by have := (HRow5.out.lt e).1; omega))
        have hnF : ∀ c, (Value.slice A8 (ot.length + 1) c8).ownBlock = some c → ¬ F1 c := fun c e q => by
          rcases HAt8.out with z | z
          · exact hfl c q (z.symm.trans e)
          · rw [e] at z
            injection z with z
            have := S.low HG1.out c q
            rw [z, World.size_alloc] at this
            omega
        have HNs : Hid (0 < (ns ++ m1).length) := Lib.hid (by
          obtain ⟨y, hy⟩ := HMe2.out
          have := (HCol.out.innF HFi.out (Or.inl rfl) hy).1
          unfold isIn at this; rw [List.length_append]; omega)
        have HJ := Lib.hid (gJoined S 4 (Or.inl rfl) (ot ++ [b]) hA8 HR8.out (by simp) hnF (fun x hx => by
          rcases List.mem_append.1 hx with hx | hx
          · exact Or.inl ((HCol.out.innF HFi.out (Or.inl rfl) (by rw [HOt.out] at hx; exact (List.mem_filter.1 hx).1)).1.up m1)
          · rw [List.mem_singleton.1 hx]; exact HNb.out.elim Or.inr (fun q => Or.inl q.1)) HNs.out (by rw [List.length_append]; simp; omega))
        have HO8 := Lib.hid hO8
        clear hfl hA8 hO8 hnF
        have hol : (((ot.length : Int) + 1) == 0) = false := (int_ne (by omega)).1
        go_wp2_with fail
        refine HJ.out.mono ?_
        rintro e w9 jp
        obtain ⟨r, _, _, rfl, _⟩ := id jp
        have HG : Hid (Got AA w (.pointer (some ⟨gp, 0, none⟩)) ns F (fun ms r => ParT ns 4 l ms r) (.returned (.int .i64 r)) w9) := Lib.hid (joined_got S.toArenaMid (m1 := m1) (L := ot ++ [b]) (fun c q => by
            rcases HG2.out c q with z | z
            · exact Or.inl z
            · exact Or.inr (Nat.le_trans HB5.out.size z)) HO8.out (fun c e => by have := (HR8.out.lt e).1; omega) jp (fun more r hfm hp hin => by
          have hbi := hin b (List.mem_append_right _ (by simp))
          rcases HNb.out with q | q
          · rw [q] at hbi; unfold isIn at hbi; omega
          · exact or_byte HFi.out HF1.out HCol.out HBy.out q.1 q.2 (by rw [← HOt.out]; exact hp)))
        clear jp
        go_wp2_with fail
        go_ret
        exact HG.out

set_option maxRecDepth 100000 in
set_option maxHeartbeats 4000000 in
/-- Of a list with one that isn't there. -/
theorem gnOrNo (S : ArenaMid AA) {w : World} {a v : Value} {ns : List Nd} {F : Nat → Prop} (l : List Int) (h : AA w a ns F) (hv : ListAt w v l) (hN : ∃ x ∈ l, ¬ isIn ns x) (hll : l.length ≤ 20000) :
    Calls Tryz.prog 87 #[a, v] w fun e w' => e = .returned (.int .i64 (-1)) ∧ Below w.heap.size w w' := by
  have HTh := Lib.hid (gThereNo S l h hv hll hN)
  clear h hv hN
  go_enter Tryz.func87, Tryz.ntmps87
  go_wp2_with fail
  refine HTh.out.mono ?_
  rintro e w1 ⟨rfl, hw1⟩
  obtain rfl : w = w1 := hw1.symm
  go_wp2_with fail
  go_ret
  exact ⟨rfl, Below.refl _ _⟩
end

end Go.Proofs.YthifbaacmohmnaaGreat

/- node of package linear. -/
namespace Go.Proofs.YthifbaacmohmnaaGreat
open Go.RowKit
set_option linter.unusedSimpArgs false
set_option linter.unusedVariables false

def arrL (xs : List Int) (n : Nat) : Array Value := ((xs ++ List.replicate (n - xs.length) 0).map (Value.int .i64)).toArray
theorem arrL_none (n : Nat) : madeCells #[.int .i64 0] n = arrL [] n := by
  unfold madeCells arrL
  apply Array.ext
  · simp
  · intro i h1 h2
    simp [Nat.mod_one]
theorem arrL_set {xs : List Int} {n : Nat} (x : Int) (h : xs.length < n) : (arrL xs n).setIfInBounds xs.length (.int .i64 x) = arrL (xs ++ [x]) n := by
  unfold arrL
  rw [List.setIfInBounds_toArray]
  congr 1
  obtain ⟨m, hm⟩ : ∃ m, n - xs.length = m + 1 := ⟨n - xs.length - 1, by omega⟩
  rw [List.length_append, List.length_singleton, hm, show n - (xs.length + 1) = m by omega, List.replicate_succ, List.map_append, List.map_cons, List.set_append, if_neg (by simp)]
  simp
theorem arrL_get {xs : List Int} {n : Nat} (h : xs.length < n) : (arrL xs n)[xs.length]? = some (.int .i64 0) := by
  unfold arrL
  obtain ⟨m, hm⟩ : ∃ m, n - xs.length = m + 1 := ⟨n - xs.length - 1, by omega⟩
  rw [hm, List.replicate_succ]
  simp
theorem arrL_list {w : World} {g : Nat} {xs : List Int} (h : At w g 3 (arrL xs xs.length)) : ListAt w (.slice (some ⟨g, 0, none⟩) xs.length xs.length) xs := by
  unfold arrL at h
  rw [Nat.sub_self, List.replicate_zero, List.append_nil] at h
  refine ⟨_, _, rfl, fun h0 => ⟨g, 0, rfl, h.lt, fun j hj => ?_⟩⟩
  rw [Nat.zero_add, h.cell j]
  simp [hj]
theorem make_lw (n : Nat) (hn : n ≤ 100000) (W : World) : (Instr.makeSlice 80 (.int .i64 (n : Int)) (.int .i64 (n : Int))).run Tryz.prog W = .ok (.slice (some ⟨W.heap.size, 0, none⟩) n n) (W.alloc (.cells (arrL [] n) 3)) := by
  rw [← arrL_none]
  exact run_make_row' (P := Tryz.prog) 80 3 (.int .i64 0) 8 Tryz.underlying80 info_intR rfl .i64 .i64 n (by omega) (by omega) W
theorem KeepsL.list {X : Nat → Prop} {w : World} {v : Value} {l : List Int} (h : KeepsL X w v l) : ListAt w v l := by
  obtain ⟨A, c, e, _, _, _, h5⟩ := h.here
  refine ⟨A, c, e, fun h0 => ?_⟩
  obtain ⟨b, off, e2, hb, hc⟩ := h5 h0
  exact ⟨b, off, e2, hb, fun j hj => by rw [← inAt_lt hj]; exact hc j hj⟩
theorem grown_set (w : World) (g i : Nat) (v : Value) : w.grownBy (w.setCell ⟨g, i, none⟩ v) (some g) := ⟨rfl, rfl, rfl, by rw [World.size_setCell]; exact Nat.le_refl _, fun b hb hn => Below.heap_setCell w ⟨g, i, none⟩ v b (fun e => hn (by rw [e]))⟩
/-- Parts and what they are in an arena. -/
def PartsR (ns ns1 : List Nd) (xs : List Int) (f : Fm) : Prop := ∀ (l bits : List Nat) (i j : Nat), V0 l bits i j → xs.map (fun x => nodeT l bits ns1 x i j) = f.map (fun q => q.all (fun n => nodeT l bits ns n i j))
theorem any_map {α : Type} (l : List α) (P : α → Bool) : l.any P = (l.map P).any (fun b => b) := by rw [List.any_map]; rfl
theorem PartsR.or {ns ns1 : List Nd} {xs : List Int} {f : Fm} (h : PartsR ns ns1 xs f) (l bits : List Nat) (i j : Nat) (hv : V0 l bits i j) : xs.any (fun x => nodeT l bits ns1 x i j) = fP (fun n => nodeT l bits ns n i j) f := by
  unfold fP
  rw [any_map, any_map f, h l bits i j hv]
theorem PartsR.up {ns ns1 : List Nd} {xs : List Int} {f : Fm} (h : PartsR ns ns1 xs f) (hx : ∀ x ∈ xs, isIn ns1 x) (more : List Nd) : PartsR ns (ns1 ++ more) xs f := fun l bits i j hv => by
  rw [← h l bits i j hv]
  exact List.map_congr_left (fun x hxm => by rw [nodeT_up l bits more (hx x hxm)])
/-- What node answers. -/
def NodePost (p : LP) (w : World) (ns : List Nd) (F : Nat → Prop) (many : Bool) (f : Fm) (e : Ending) (w' : World) : Prop :=
  ∃ (r : Int) (ns1 : List Nd) (F1 : Nat → Prop) (many1 : Bool), e = .returned (.int .i64 r) ∧ Grow p w ns F many w' ns1 F1 many1 ∧ ((r = -1 ∧ many1 = true) ∨ isIn ns1 r) ∧ (many1 = false → ∀ (l bits : List Nat) (i j : Nat), V0 l bits i j → nodeT l bits ns1 r i j = fP (fun n => nodeT l bits ns n i j) f)
section
variable {p : LP} {w : World} {ns : List Nd} {F : Nat → Prop} {many : Bool}
set_option maxRecDepth 100000 in
set_option maxHeartbeats 8000000 in
theorem lNode {f : Fm} {v : Value} (h : LW p w ns F many) (hv : Keeps (XY p F) w v f) (hf : FmIn (Ls ns) f) :
    Calls Tryz.prog 157 #[.pointer (some ⟨p.gw, 0, none⟩), v] w (NodePost p w ns F many f) := by
  obtain ⟨A, c, rfl⟩ := hv.at
  have hfw := hf.few
  obtain ⟨p1, hp1⟩ : ∃ p1 : LP, p1 = { p with y := fun b => p.y b ∨ b = w.heap.size } := ⟨_, rfl⟩
  have hgw : p1.gw = p.gw := by rw [hp1]
  have hpa : p1.a = p.a := by rw [hp1]
  have hy1 : ∀ b, p.y b → p1.y b := fun b q => by rw [hp1]; exact Or.inl q
  have hyg : p1.y w.heap.size := by rw [hp1]; exact Or.inr rfl
  obtain ⟨w1, hw1⟩ : ∃ w1, w1 = w.alloc (.cells (arrL [] f.length) 3) := ⟨_, rfl⟩
  have hb1 : Below w.heap.size w w1 := by rw [hw1]; exact (Below.refl _ _).alloc (Nat.le_refl _) _
  have hsz1 : w1.heap.size = w.heap.size + 1 := by rw [hw1, World.size_alloc]
  have hL1 : LW p1 w1 ns F many := by
    rw [hp1]
    exact h.addY hb1 _ (fun b q => q.imp id (fun e => by omega))
  have hA1 : At w1 w.heap.size 3 (arrL [] f.length) := by rw [hw1]; exact At.new _ _ _
  have hXB : ∀ G b, XB p1 G b ↔ XB p G b := fun G b => by rw [hp1]; exact Iff.rfl
  have hG1 : Grow p1 w ns F many w1 ns F many := ⟨⟨[], (List.append_nil _).symm⟩, hL1, fun b q => Or.inl q, OffF.of hb1, id⟩
  have hK1 : Keeps (XY p1 F) w (.slice A f.length c) f := hv.step (OffF.of (Below.refl _ _)) (fun b q => by
    rw [hp1] at q
    rcases q with q | q | q
    · exact Or.inl (Or.inl q)
    · exact Or.inl (Or.inr q)
    · exact Or.inr (by omega))
  have HBk : Hid (∀ {w2 : World} {ns2 : List Nd} {F2 : Nat → Prop} {m2 : Bool}, Grow p1 w ns F many w2 ns2 F2 m2 → Grow p w ns F many w2 ns2 F2 m2) := Lib.hid (fun g => by
    rw [hp1] at g
    exact Grow.lessY g (fun b q => Or.inl q))
  have HNx : Hid (∀ G, (∀ b, G b → F b ∨ w.heap.size + 1 ≤ b) → ¬ XB p1 G w.heap.size) := Lib.hid (fun G hG q => by
    rcases (hXB G _).1 q with q | q
    · rcases hG _ q with q | q
      · have := h.low _ (Or.inl q); omega
      · omega
    · have := h.low _ (Or.inr q); omega)
  have HK1 := Lib.hid hK1
  have HYg := Lib.hid hyg
  have HG1 := Lib.hid hG1
  have HA1 := Lib.hid hA1
  have HIn := Lib.hid hf
  have HFw := Lib.hid h.few
  have HPa := Lib.hid hpa
  obtain ⟨gp, hgp⟩ := arenaMid.ptr h.ar
  have HP := Lib.hid hgp
  have hmk := make_lw f.length (by omega) w
  rw [← hw1] at hmk
  rw [← hgw]
  clear h hv hf hL1 hA1 hG1 hK1 hb1 hgw hpa hy1 hyg hXB hp1 hw1 hgp
  go_enter Tryz.func157, Tryz.ntmps157
  go_wp2_with fail
  go_loopw [13] (fun v wr => ∃ (j : Nat) (xs : List Int) (ns1 : List Nd) (F1 : Nat → Prop) (many1 : Bool), j ≤ f.length ∧ v = .int .i64 j ∧ xs.length = j ∧ w.heap.size + 1 ≤ wr.heap.size ∧ Hid (∀ b, F1 b → F b ∨ w.heap.size + 1 ≤ b) ∧ Hid (Grow p1 w ns F many wr ns1 F1 many1) ∧ Hid (At wr w.heap.size 3 (arrL xs f.length)) ∧ Hid (∀ x ∈ xs, isIn ns1 x ∨ (x = -1 ∧ many1 = true)) ∧ Hid ((∀ x ∈ xs, isIn ns1 x) → PartsR ns ns1 xs (f.take j))) (fun v _ => f.length - (intOf v).toNat)
  case atStart => exact ⟨0, [], ns, F, many, Nat.zero_le _, rfl, rfl, by omega, Lib.hid (fun b q => Or.inl q), HG1, HA1, Lib.hid (fun x hx => by cases hx), Lib.hid (fun _ l bits i j _ => rfl)⟩
  case round =>
    clear HG1 HA1 hmk
    obtain ⟨j, xs, ns1, F1, many1, hj, rfl, hxl, hsz, HFl, HG, HA, HX, HR⟩ := hrel
    obtain ⟨c0, _⟩ := HG.out.lw.cells
    rw [HPa.out, HP.out] at c0
    by_cases hlt : j < f.length
    · have h1 : (0 : Int) ≤ (j : Int) := by omega
      have h2 : (j : Int) < (f.length : Int) := by omega
      obtain ⟨b, off, A2, c2, rfl, hbl, q0, hkp⟩ := (HK1.out.grow HG.out).part j hlt
      obtain ⟨x, hx⟩ : ∃ x, paAt f j = x := ⟨_, rfl⟩
      rw [hx] at q0 hkp
      have hxe : f[j] = x := by rw [← hx, paAt_lt hlt]
      have HXe : Hid (f[j] = x) := Lib.hid hxe
      have hxm : x ∈ f := by rw [← hxe]; exact List.getElem_mem hlt
      have hxin : ∀ n ∈ x, isIn ns n := fun n hn => ls_mem.1 (HIn.out.inn x hxm n hn)
      have hxl2 : x.length ≤ 20000 := by
        have := HIn.out.part (ls_up ns) hxm
        rw [ls_len] at this
        have := HFw.out
        omega
      have HXi := Lib.hid hxin
      have HC := Lib.hid (gnAnd arenaFix x HG.out.lw.ar hkp.list (fun n hn => HG.out.isIn (hxin n hn)) hxl2)
      rw [HPa.out, HP.out] at HC
      clear hx hxe hbl hkp hxm hxin hxl2
      go_wp2_with fail
      refine HC.out.mono ?_
      rintro e w2 g
      rw [← HP.out, ← HPa.out] at g
      obtain ⟨r, ns2, F2, rfl, g2, hr2⟩ := Got.grow HG.out.lw g
      have HG2 := Lib.hid g2
      have HR2 := Lib.hid hr2
      have HFt := Lib.hid (lFits g2.lw r)
      clear g g2 hr2 HC
      go_wp2_with fail
      refine HFt.out.mono ?_
      rintro e w3 ⟨rfl, g3⟩
      have HG3 := Lib.hid g3
      have HFl2 : Hid (∀ b, F2 b → F b ∨ w.heap.size + 1 ≤ b) := Lib.hid (fun b q => by
        rcases HG2.out.low b q with q | q
        · exact HFl.out b q
        · exact Or.inr (by omega))
      have hsz3 : w.heap.size + 1 ≤ w3.heap.size := Nat.le_trans hsz (Nat.le_trans HG2.out.size g3.size)
      have hrow : At w3 w.heap.size 3 (arrL xs f.length) := (g3.off.block _ (Nat.lt_of_lt_of_le (At.lt HA.out) HG2.out.size) (HNx.out _ HFl2.out)).trans ((HG2.out.off.block _ (At.lt HA.out) (HNx.out _ HFl.out)).trans HA.out)
      have hcj : w3.cell? ⟨w.heap.size, j, none⟩ = some (.int .i64 0) := by
        rw [hrow.cell j, ← hxl]
        exact arrL_get (by rw [hxl]; exact hlt)
      have fj := hrow.free j
      have HRow := Lib.hid hrow
      clear hrow g3 HFt q0
      go_wp2_with fail
      have hg4 := grown_set w3 w.heap.size j (.int .i64 r)
      have hlw4 := HG3.out.lw.turnY hg4 (fun b e => by injection e with e; subst e; exact ⟨HYg.out, HNx.out _ HFl2.out⟩)
      have HG23 := HG2.out.trans HG3.out
      have hG4 : Grow p1 w ns F many (w3.setCell ⟨w.heap.size, j, none⟩ (.int .i64 r)) ns2 F2 (many1 || decide (r < 0)) := by
        have hg := HG.out.trans HG23
        exact ⟨hg.more, hlw4, hg.low, hg.off.grown hg4 (fun b e => by injection e with e; subst e; exact Or.inr (Nat.le_refl _)), hg.mono⟩
      refine ⟨⟨j + 1, xs ++ [r], ns2, F2, many1 || decide (r < 0), by omega, by go_num, by rw [List.length_append, hxl]; rfl, by rw [World.size_setCell]; exact hsz3, HFl2, Lib.hid hG4, Lib.hid ?_, Lib.hid ?_, Lib.hid ?_⟩, by simp [intOf]; omega⟩
      · have h3 := HRow.out.set j (.int .i64 r)
        have h4 := arrL_set (xs := xs) (n := f.length) r (by rw [hxl]; exact hlt)
        rw [hxl] at h4
        rwa [h4] at h3
      · intro z hz
        rcases List.mem_append.1 hz with hz | hz
        · rcases HX.out z hz with q | ⟨q1, q2⟩
          · exact Or.inl (HG2.out.isIn q)
          · exact Or.inr ⟨q1, by rw [q2]; rfl⟩
        · rw [List.mem_singleton.1 hz]
          rcases HR2.out with q | ⟨q, _⟩
          · exact Or.inr ⟨q, by rw [q]; simp⟩
          · exact Or.inl q
      · intro hall l bits i k hv
        have hxs : ∀ z ∈ xs, isIn ns1 z := fun z hz => by
          rcases HX.out z hz with q | ⟨q1, q2⟩
          · exact q
          · have := hall z (List.mem_append_left _ hz)
            unfold isIn at this
            omega
        have hr : isIn ns2 r ∧ ParT ns1 5 x ns2 r := by
          rcases HR2.out with q | q
          · have := hall r (by simp)
            unfold isIn at this
            omega
          · exact q
        obtain ⟨m, hm⟩ := HG2.out.more
        obtain ⟨m0, hm0⟩ := HG.out.more
        have h5 := (HR.out hxs).up hxs m l bits i k hv
        rw [← hm] at h5
        rw [List.map_append, List.take_succ_eq_append_getElem hlt, List.map_append, h5, HXe.out, List.map_cons, List.map_nil, List.map_cons, List.map_nil, hr.2 l bits i k hv.1 hv.2.1 hv.2.2, if_neg (by omega)]
        congr 2
        exact all_agree (fun n hn => by rw [hm0, nodeT_up l bits m0 (HXi.out n hn)])
    · obtain rfl : j = f.length := by omega
      have HRow := HA
      rw [← hxl] at HRow
      have hli := arrL_list HRow.out
      rw [hxl] at hli
      have hxl20 : xs.length ≤ 20000 := by omega
      by_cases hall : ∀ x ∈ xs, isIn ns1 x
      · have HC := Lib.hid (gnOr arenaFix xs HG.out.lw.ar hli hall hxl20)
        rw [HPa.out, HP.out] at HC
        have HAll := Lib.hid hall
        clear hall hli
        go_wp2_with fail
        refine HC.out.mono ?_
        rintro e w2 g
        rw [← HP.out, ← HPa.out] at g
        obtain ⟨r, ns2, F2, rfl, g2, hr2⟩ := Got.grow HG.out.lw g
        have HG2 := Lib.hid g2
        have HR2 := Lib.hid hr2
        have HFt := Lib.hid (lFits g2.lw r)
        clear g g2 hr2 HC
        go_wp2_with fail
        refine HFt.out.mono ?_
        rintro e w3 ⟨rfl, g3⟩
        have HG3 := Lib.hid g3
        clear g3
        go_wp2_with fail
        go_ret
        refine ⟨r, ns2, F2, _, rfl, HBk.out ((HG.out.trans HG2.out).trans HG3.out), ?_, fun hm l bits i k hv => ?_⟩
        · rcases HR2.out with q | ⟨q, _⟩
          · exact Or.inl ⟨q, by rw [q]; simp⟩
          · exact Or.inr q
        · rcases HR2.out with q | ⟨q, hq⟩
          · rw [q] at hm; simp at hm
          · rw [hq l bits i k hv.1 hv.2.1 hv.2.2, if_pos rfl]
            have := (HR.out HAll.out).or l bits i k hv
            rwa [List.take_of_length_le (Nat.le_refl _)] at this
      · have hNo : ∃ x ∈ xs, ¬ isIn ns1 x := by
          refine Classical.byContradiction fun q => hall (fun x hx => Classical.byContradiction fun q2 => q ⟨x, hx, q2⟩)
        have HMn : Hid (many1 = true) := Lib.hid (by
          obtain ⟨x, hx, hn⟩ := hNo
          rcases HX.out x hx with q | ⟨_, q⟩
          · exact absurd q hn
          · exact q)
        have HC := Lib.hid (gnOrNo arenaMid xs HG.out.lw.ar hli hNo hxl20)
        rw [HPa.out, HP.out] at HC
        clear hall hli hNo
        go_wp2_with fail
        refine HC.out.mono ?_
        rintro e w2 ⟨rfl, hb2⟩
        have HG2 := Lib.hid (HG.out.next hb2)
        have HFt := Lib.hid (lFits HG2.out.lw (-1))
        clear hb2 HC
        go_wp2_with fail
        refine HFt.out.mono ?_
        rintro e w3 ⟨rfl, g3⟩
        have HG3 := Lib.hid g3
        clear g3
        go_wp2_with fail
        go_ret
        exact ⟨-1, ns1, F1, _, rfl, HBk.out (HG2.out.trans HG3.out), Or.inl ⟨rfl, by rw [HMn.out]; rfl⟩, fun hm => by rw [HMn.out] at hm; cases hm⟩
end

end Go.Proofs.YthifbaacmohmnaaGreat
