/- bolterlaw10.NormSame, by what putting together does. -/
import Derived.Test.YtcghclikkeajfaaNormRow
import Derived.Deep.QuietTactic
import Derived.BigQuiet
namespace Go.Proofs.Ytcghclikkeajfaa
open Go.RowKit
set_option linter.unusedSimpArgs false
set_option linter.unusedVariables false

theorem set_words {W : World} {A : Option Addr} {n : Nat} {L : List St} (h : IsSets W A n L) (j : Nat) (hj : j < L.length) : ∃ b off, A = some ⟨b, off, none⟩ ∧ W.cell? ⟨b, off + j * 4, none⟩ = some (.int .u64 L[j].w0) ∧ W.cell? ⟨b, off + j * 4 + 1, none⟩ = some (.int .u64 L[j].w1) ∧ W.cell? ⟨b, off + j * 4 + 2, none⟩ = some (.int .u64 L[j].w2) ∧ W.cell? ⟨b, off + j * 4 + 3, none⟩ = some (.int .u64 L[j].w3) := by
  obtain ⟨b, off, e, _, hc⟩ := h.2.2.2 (by have := h.1; omega)
  exact ⟨b, off, e, hc j hj⟩
theorem byte_cell {W : World} {A : Option Addr} {n : Nat} {l : List Nat} (h : IsBytes W A n l) (j : Nat) (hj : j < l.length) : ∃ b off, A = some ⟨b, off, none⟩ ∧ W.cell? ⟨b, off + j, none⟩ = some (.int .u8 l[j]) := by
  obtain ⟨b, off, e, _, hc⟩ := h.2.2.2 (by have := h.1; omega)
  exact ⟨b, off, e, hc j hj⟩
theorem tmod_nat (a b : Nat) : Int.tmod (a : Int) (b : Int) = ((a % b : Nat) : Int) := (Int.ofNat_tmod a b).symm
section
variable {AA : World → Value → List Nd → (Nat → Prop) → Prop}
theorem Rnd.start (S : ArenaBig AA) {w0 w1 w' : World} {a : Value} {F1 : Nat → Prop} {m : Nat} {ns : List Nd} (hs : LSt AA w1 w' a [] F1 m ns) (hF : ∀ b, F1 b → w0.heap.size ≤ b) (hb : Below w0.heap.size w0 w1) (x y z : Int) :
    ∃ F, Rnd AA w0 (w'.alloc (.cells #[.int .i64 x, .int .i64 y, .int .i64 z] 3)) a ns F (.slice (some ⟨w'.heap.size, 0, none⟩) 3 3) [x, y, z] := by
  obtain ⟨F, h1, h2, h3⟩ := hs.ex
  have hF' : ∀ b, F b → w0.heap.size ≤ b := fun b q => by
    rcases h2 b q with q | q
    · exact hF b q
    · exact Nat.le_trans hb.size q
  have hb' : Below w0.heap.size w0 w' := hb.trans (h3.below hF hb.size)
  refine ⟨F, S.next h1 ((Below.refl _ _).alloc (Nat.le_refl _) _), hs.canon, IdRow.made w' _ hb'.size x y z, fun b q e => ?_, hF', hb'.alloc hb'.size _⟩
  have e : some w'.heap.size = some b := e
  injection e with e
  have := S.low h1 b q
  omega

set_option maxRecDepth 100000 in
set_option maxHeartbeats 32000000 in
theorem lawSame10 (S : ArenaBig AA) (N : NormSpec AA) (A B : Option Addr) (n m ca cb : Nat) (L : List St) (p : List Nat) (k : Int) (neg : Bool) (w : World) (hL : IsSets w A n L) (hk : I64 k) (hp : IsBytes w B m p) :
    Calls Try.prog 3 #[.slice A n ca, .int .i64 k, .bool neg, .slice B m cb] w fun e w' => e = .returned (.bool true) ∧ Below w.heap.size w w' := by
  have HL := Lib.hid hL
  have HP := Lib.hid hp
  have HLn := Lib.hid hL.1
  have HPn := Lib.hid hp.1
  have hn63 := hL.2.1
  have hm63 := hp.2.1
  have HK := Lib.hid hk
  obtain ⟨i0, hi0, hi1, hi2, hi3⟩ := info_parts info_intR
  clear hL hp hk
  by_cases hbig : 10 < n ∨ 30 < m
  · go_enter Try.func3, Try.ntmps3
    go_wp2_with fail
    refine (lawAwake10 S N w).mono ?_
    rintro e w1 ⟨rfl, hB1⟩
    have HB1 := Lib.hid hB1
    clear hB1
    by_cases h10 : 10 < n
    · have h101 : (10 : Int) < (n : Int) := by omega
      have h102 : decide (10 < n) = true := decide_eq_true h10
      go_wp2_with fail
      refine (lawAwake10 S N w1).mono ?_
      rintro e w2 ⟨rfl, hB2⟩
      have HB2 := Lib.hid (HB1.out.trans (hB2.mono HB1.out.size))
      clear hB2
      go_wp2_with fail
      go_ret
      exact ⟨rfl, HB2.out⟩
    · have h101 : ¬ (10 : Int) < (n : Int) := by omega
      have h102 : decide (10 < n) = false := decide_eq_false h10
      have h301 : (30 : Int) < (m : Int) := by omega
      have h302 : decide (30 < m) = true := decide_eq_true (by omega)
      go_wp2_with fail
      refine (lawAwake10 S N w1).mono ?_
      rintro e w2 ⟨rfl, hB2⟩
      have HB2 := Lib.hid (HB1.out.trans (hB2.mono HB1.out.size))
      clear hB2
      go_wp2_with fail
      go_ret
      exact ⟨rfl, HB2.out⟩
  have hn10 : n ≤ 10 := by omega
  have hm30 : m ≤ 30 := by omega
  have h101 : ¬ (10 : Int) < (n : Int) := by omega
  have h102 : decide (10 < n) = false := decide_eq_false (by omega)
  have h301 : ¬ (30 : Int) < (m : Int) := by omega
  have h302 : decide (30 < m) = false := decide_eq_false (by omega)
  go_enter Try.func3, Try.ntmps3
  go_wp2_with fail
  refine (lawAwake10 S N w).mono ?_
  rintro e w1 ⟨rfl, hB1⟩
  have HB1 := Lib.hid hB1
  clear hB1
  go_wp2_with fail
  refine (S.new w1).mono ?_
  rintro e w2 ⟨a, F1, rfl, hA2, hF2, hB2⟩
  have HB2 := Lib.hid (HB1.out.trans (hB2.mono HB1.out.size))
  have HF2 : Hid (∀ b, F1 b → w.heap.size ≤ b) := Lib.hid (fun b q => Nat.le_trans HB1.out.size (hF2 b q))
  have HS0 : Hid (LSt AA w2 w2 a [] F1 0 []) := Lib.hid (LSt.start hA2 canon_nil)
  clear hA2 hF2 hB2
  go_wp2_with fail
  refine (stNone N HS0.out (by simp)).mono ?_
  rintro e w3 ⟨un, ns3, rfl, hs, hu, hin, hkd⟩
  have HS3 := Lib.hid hs
  have HN3 : Hid (NoIs ns3 un) := Lib.hid ⟨hin, hkd⟩
  clear hs hu hin hkd HS0
  go_wp2_with fail
  refine (stEmpty N HS3.out (by simp)).mono ?_
  rintro e w4 ⟨ue, ns4, rfl, hs, hu, hin, hkd⟩
  have HS4 := Lib.hid hs
  have HN4 := Lib.hid (HN3.out.upTo HS3.out.canon.fine hu)
  have HE4 : Hid (EmIs ns4 ue) := Lib.hid ⟨hin, hkd⟩
  clear hs hu hin hkd HS3 HN3
  go_wp2_with fail
  refine (stAll N HS4.out (by simp)).mono ?_
  rintro e w5 ⟨ul, ns5, rfl, hs, hu, hin, hkd⟩
  have HN5 := Lib.hid (HN4.out.upTo HS4.out.canon.fine hu)
  have HE5 := Lib.hid (HE4.out.upTo HS4.out.canon.fine hu)
  obtain ⟨F5, hR5⟩ := Rnd.start S hs HF2.out HB2.out un ue ul
  have HR5 := Lib.hid hR5
  have hlen5 : ns5.length ≤ 9 := by have := hs.few; simpa using this
  have HW5 : Hid (∀ x ∈ [un, ue, ul], LenW ns5 1 1 1 x) := Lib.hid (fun x hx => by
    have a1 := HN5.out
    have a2 := HE5.out
    simp at hx
    rcases hx with rfl | rfl | rfl
    · have := a1.2; exact leafW hs.canon a1.1 (by omega) (by omega) (by omega) (by omega)
    · have := a2.2; exact leafW hs.canon a2.1 (by omega) (by omega) (by omega) (by omega)
    · exact alW hs.canon hin hkd)
  clear hs hu hin hkd HS4 HN4 HE4 HN5 HE5 hR5
  go_wp2_with fail
  go_loopw [10, 40] (fun v x wr => ∃ (j : Nat) (ns : List Nd) (F : Nat → Prop) (ids : List Int), j ≤ n ∧ x = .int .i64 j ∧ ids.length = 3 + j ∧ ns.length ≤ 9 + 3 * j ∧ Hid (Rnd AA w wr a ns F v ids) ∧ Hid (∀ x ∈ ids, LenW ns 1 1 1 x)) (fun _ x _ => n - (intOf x).toNat)
  case atStart => exact ⟨0, ns5, F5, [un, ue, ul], Nat.zero_le _, rfl, rfl, by omega, HR5, HW5⟩
  case round =>
    clear HR5 HW5
    obtain ⟨j, ns, F, ids, hj, rfl, hids, hns, HR, HW⟩ := hrel
    by_cases hjl : j < n
    · have hj0 : (0 : Int) ≤ (j : Int) := by omega
      have hjn : (j : Int) < (n : Int) := by omega
      have hjL : j < L.length := by have := HLn.out; omega
      obtain ⟨b, off, hA, s0, s1, s2, s3⟩ := set_words (HL.out.next HR.out.below) j hjL
      subst hA
      have HOk := Lib.hid (HL.out.2.2.1 j hjL)
      obtain ⟨s, hs⟩ : ∃ s, L[j] = s := ⟨_, rfl⟩
      rw [hs] at s0 s1 s2 s3 HOk
      clear hs
      have HS : Hid (LSt AA wr wr a ns F 0 ns) := Lib.hid (LSt.start HR.out.aa HR.out.canon)
      go_wp2_with fail
      refine (stBytes N HS.out s HOk.out (by omega)).mono ?_
      rintro e w7 ⟨r, ns7, rfl, hs7, hu7, hin7, hk7⟩
      obtain ⟨F7, hR7, hl7⟩ := HR.out.op hs7
      have HR7 := Lib.hid hR7
      have HW7 : Hid (∀ x ∈ ids ++ [r], LenW ns7 1 1 1 x) := Lib.hid (fun x hx => by
        rw [List.mem_append, List.mem_singleton] at hx
        rcases hx with hx | rfl
        · exact (HW.out x hx).upTo HR.out.canon.fine hu7
        · exact leafW hs7.canon hin7 (by omega) (by omega) (by omega) (by omega))
      have HR8 := Lib.hid (HR7.out.alloc S (.cells #[.int .i64 r] 3))
      have HRw := Lib.hid HR8.out.row
      clear hs7 hu7 hin7 hk7 hR7 s0 s1 s2 s3
      go_wp2_with (first
        | (at_builtin
           refine wpList_append_own_at _ rfl _ _ _ rfl w.heap.size 3 i0 _ 1 8 Try.underlying28 hi0 hi1 hi2 hi3 rfl (by omega) u10 _ _ rfl HRw.out ⟨_, 0, none⟩ 1 1 [.int .i64 r] rfl rfl (cell_one_new _ _ _) ?c2 ?c3 ?c4 ?c5 ?_
           case c2 => simp [Value.oneCell']
           case c3 => unfold maxLen; omega
           case c4 => omega
           case c5 => exact HR8.out.below.size
           intro v' w9 hown9 hg9 _ hat9)
        | fail)
      refine ⟨⟨j + 1, ns7, F7, ids ++ [r], by omega, by go_num, by rw [List.length_append, hids]; rfl, by omega, Lib.hid (HR8.out.app S hown9 hg9 hat9), HW7⟩, by simp [intOf] <;> omega⟩
    · obtain rfl : j = n := by omega
      have HS : Hid (LSt AA wr wr a ns F 0 ns) := Lib.hid (LSt.start HR.out.aa HR.out.canon)
      by_cases hkk : 0 ≤ k ∧ k < 4
      · have e1 : decide (0 ≤ k) = true := decide_eq_true hkk.1
        have e2 : decide (k < 4) = true := decide_eq_true hkk.2
        have e3 := hkk.1
        have e4 := hkk.2
        go_wp2_with fail
        refine (stLook N HS.out k neg hkk (by omega)).mono ?_
        rintro e w7 ⟨z, ns7, rfl, hs7, hu7, hin7, hk7⟩
        obtain ⟨F7, hR7, hl7⟩ := HR.out.op hs7
        have HW7 : Hid (∀ x ∈ ids ++ [z], LenW ns7 1 1 1 x) := Lib.hid (fun x hx => by
          rw [List.mem_append, List.mem_singleton] at hx
          rcases hx with hx | rfl
          · exact (HW.out x hx).upTo HR.out.canon.fine hu7
          · exact leafW hs7.canon hin7 (by omega) (by omega) (by omega) (by omega))
        have HR8 := Lib.hid (hR7.alloc S (.cells #[.int .i64 z] 3))
        have HRw := Lib.hid HR8.out.row
        clear hs7 hu7 hin7 hk7 hR7
        go_wp2_with (first
          | (at_builtin
             refine wpList_append_own_at _ rfl _ _ _ rfl w.heap.size 3 i0 _ 1 8 Try.underlying28 hi0 hi1 hi2 hi3 rfl (by omega) u10 _ _ rfl HRw.out ⟨_, 0, none⟩ 1 1 [.int .i64 z] rfl rfl (cell_one_new _ _ _) ?c2 ?c3 ?c4 ?c5 ?_
             case c2 => simp [Value.oneCell']
             case c3 => unfold maxLen; omega
             case c4 => omega
             case c5 => exact HR8.out.below.size
             intro v' w9 hown9 hg9 _ hat9)
          | fail)
        have HR9 := Lib.hid (HR8.out.app S hown9 hg9 hat9)
        clear hown9 hg9 hat9
        go_loopw [10, 71] (fun v x wr => ∃ (j : Nat) (ns : List Nd) (F : Nat → Prop) (ids : List Int), j ≤ m ∧ x = .int .i64 j ∧ (3 ≤ ids.length ∧ ids.length ≤ 14 + j) ∧ ns.length ≤ roomS j ∧ Hid (Rnd AA w wr a ns F v ids) ∧ Hid (∀ x ∈ ids, LenW ns (2 ^ ((j + 4) / 5)) (2 ^ ((j + 3) / 5)) (2 ^ ((j + 2) / 5)) x)) (fun _ x _ => m - (intOf x).toNat)
        case atStart => exact ⟨0, ns7, F7, ids ++ [z], Nat.zero_le _, rfl, by rw [List.length_append, List.length_singleton]; omega, by show ns7.length ≤ 60; omega, HR9, HW7⟩
        case round =>
          clear HR9 HW7 HR8 HRw HR HW HS
          obtain ⟨j, ns, F, ids, hj, rfl, hids, hns, HR, HW⟩ := hrel
          by_cases hjl : j < m
          · have hj0 : (0 : Int) ≤ (j : Int) := by omega
            have hjm : (j : Int) < (m : Int) := by omega
            have hjp : j < p.length := by have := HPn.out; omega
            obtain ⟨bp, offp, hB, q0⟩ := byte_cell (HP.out.below HR.out.below) j hjp
            subst hB
            obtain ⟨pj, hpj⟩ : ∃ pj, p[j] = pj := ⟨_, rfl⟩
            rw [hpj] at q0
            have hp256 : pj < 256 := by rw [← hpj]; exact HP.out.2.2.1 j hjp
            clear hpj
            obtain ⟨g, cap, hv, hcl⟩ := HR.out.row.form (by omega)
            subst hv
            obtain ⟨len, hlen⟩ : ∃ len, ids.length = len := ⟨_, rfl⟩
            have hl0 : ¬ (len : Int) = 0 := by omega
            have hix : pj % len < len := Nat.mod_lt _ (by omega)
            have hiy : (pj * 7 + j) % len < len := Nat.mod_lt _ (by omega)
            have c1 := hcl (pj % len) (by omega)
            have c2 := hcl ((pj * 7 + j) % len) (by omega)
            have HXm := Lib.hid (List.getElem_mem (l := ids) (n := pj % len) (by omega))
            have HYm := Lib.hid (List.getElem_mem (l := ids) (n := (pj * 7 + j) % len) (by omega))
            rw [hlen]
            have t1 : Int.tmod (pj : Int) (len : Int) = ((pj % len : Nat) : Int) := tmod_nat pj len
            have t2 : Int.tmod ((pj : Int) * 7 + (j : Int)) (len : Int) = (((pj * 7 + j) % len : Nat) : Int) := by rw [← tmod_nat]; push_cast; rfl
            obtain ⟨ix, hixe⟩ : ∃ ix, pj % len = ix := ⟨_, rfl⟩
            obtain ⟨iy, hiye⟩ : ∃ iy, (pj * 7 + j) % len = iy := ⟨_, rfl⟩
            simp only [hixe] at hix c1 t1 HXm
            simp only [hiye] at hiy c2 t2 HYm
            obtain ⟨x, hx⟩ : ∃ x, ids[ix] = x := ⟨_, rfl⟩
            obtain ⟨y, hy⟩ : ∃ y, ids[iy] = y := ⟨_, rfl⟩
            rw [hx] at c1 HXm
            rw [hy] at c2 HYm
            have hix1 : (ix : Int) < (len : Int) := by omega
            have hiy1 : (iy : Int) < (len : Int) := by omega
            have hix0 : (0 : Int) ≤ (ix : Int) := by omega
            have hiy0 : (0 : Int) ≤ (iy : Int) := by omega
            have HLen := Lib.hid hlen
            clear hcl hx hy hixe hiye hlen
            go_wp2_with fail
            go_quiet (fail)
            have HRq := Lib.hid (HR.out.drewN S nq)
            have HSq : Hid (LSt AA (wr.drewN nq) (wr.drewN nq) a ns F 0 ns) := Lib.hid (LSt.start HRq.out.aa HRq.out.canon)
            have hroom := room_ok j (by omega)
            have t5 : Int.tmod (j : Int) 5 = ((j % 5 : Nat) : Int) := tmod_nat j 5
            obtain ⟨q, hq⟩ : ∃ q, j / 5 = q := ⟨_, rfl⟩
            obtain ⟨P, hP⟩ : ∃ P, 2 ^ q = P := ⟨_, rfl⟩
            have hP1 : 1 ≤ P := by rw [← hP]; exact Nat.one_le_two_pow
            have hP2 : 2 ^ (q + 1) = 2 * P := by rw [Nat.pow_succ, hP]; omega
            have hrs : roomS (j + 1) = roomS j + (20 * (2 * P) + 123) := by show roomS j + (20 * 2 ^ (j / 5 + 1) + 123) = _; rw [hq, hP2]
            rw [hq, hP2] at hroom
            have HNum := Lib.hid (And.intro hroom (And.intro hrs (And.intro hP1 (And.intro hns hids))))
            have HP1 := Lib.hid hP1
            have HX := Lib.hid (HW.out x HXm.out)
            have HY := Lib.hid (HW.out y HYm.out)
            clear c1 c2 t1 t2 hl0 hix hiy hix1 hiy1 hix0 hiy0 q0 hp256 hroom hrs
            have h5 : j % 5 = 0 ∨ j % 5 = 1 ∨ j % 5 = 2 ∨ j % 5 = 3 ∨ j % 5 = 4 := by omega
            rcases h5 with h5 | h5 | h5 | h5 | h5
            · have E4 : (j + 4) / 5 = q := by omega
              have E5 : (j + 3) / 5 = q := by omega
              have E3 : (j + 2) / 5 = q := by omega
              have G4 : (j + 1 + 4) / 5 = q + 1 := by omega
              have G5 : (j + 1 + 3) / 5 = q := by omega
              have G3 : (j + 1 + 2) / 5 = q := by omega
              rw [E4, E5, E3] at HX HY HW
              simp only [hP2, hP] at HX HY HW
              have HG : Hid (2 ^ ((j + 1 + 4) / 5) = (2 * P) ∧ 2 ^ ((j + 1 + 3) / 5) = P ∧ 2 ^ ((j + 1 + 2) / 5) = P) := Lib.hid (by rw [G4, G5, G3]; simp only [hP2, hP]; exact ⟨trivial, trivial, trivial⟩)
              replace t5 : Int.tmod (j : Int) 5 = 0 := by rw [t5, h5]; rfl
              clear E4 E5 E3 G4 G5 G3 hq hP hP2 h5
              go_wp2_with fail
              refine (stOr N (HSq.out.alloc S (.cells #[.int .i64 x, .int .i64 y] 3)) [x, y] (list_two _ x y 3) (in2 HX.out.1.1 HY.out.1.1) (2 * P) (by rw [memN_two]; have := HX.out.1.2.1; have := HY.out.1.2.1; omega) (by have := HNum.out; omega)).mono ?_
              rintro e w7 ⟨z, ns7, rfl, hs7, hu7, hj7⟩
              have HLz : Hid (LenW ns7 (2 * P) P P z) := Lib.hid (or_lenw hs7.canon (HX.out.upTo HR.out.canon.fine hu7) (HY.out.upTo HR.out.canon.fine hu7) HP1.out HP1.out HP1.out hj7)
              obtain ⟨F7, hR7, hl7⟩ := HRq.out.op hs7
              have HW7 : Hid (∀ u ∈ ids ++ [z], LenW ns7 (2 * P) P P u) := Lib.hid (fun u hu => by
                rw [List.mem_append, List.mem_singleton] at hu
                rcases hu with hu | rfl
                · exact ((HW.out u hu).upTo HR.out.canon.fine hu7).mono (by omega) (by omega) (by omega)
                · exact HLz.out)
              have HX7 := Lib.hid (((HX.out.upTo HR.out.canon.fine hu7).mono (V4 := 2 * P) (V5 := 2 * P) (V3 := 2 * P) (by omega) (by omega) (by omega)).1)
              have HY7 := Lib.hid (((HY.out.upTo HR.out.canon.fine hu7).mono (V4 := 2 * P) (V5 := 2 * P) (V3 := 2 * P) (by omega) (by omega) (by omega)).1)
              have HZ7 := Lib.hid ((HLz.out.mono (V4 := 2 * P) (V5 := 2 * P) (V3 := 2 * P) (by omega) (by omega) (by omega)).1)
              have HR8 := Lib.hid (hR7.alloc S (.cells #[.int .i64 z] 3))
              have HRw : Hid (((w7.alloc (.cells #[.int .i64 z] 3))).ownsRow w.heap.size 3 1 (.slice (some ⟨g, 0, none⟩) len cap) len (idL ids)) := Lib.hid (by have q := HR8.out.row; unfold IdRow at q; rw [HLen.out] at q; exact q)
              have HL7 := Lib.hid hl7
              have hids1 := HNum.out.2.2.2.2
              have hids2 := HLen.out
              have hz0 : 0 ≤ z := HZ7.out.1.1
              have hz1 : ¬ z < 0 := by omega
              have hz2 : decide (z < 0) = false := decide_eq_false hz1
              clear hs7 hu7 hj7 hR7 hl7 t5
              go_wp2_with (first
                | (at_builtin
                   refine wpList_append_own_at _ rfl _ _ _ rfl w.heap.size 3 i0 _ 1 8 Try.underlying28 hi0 hi1 hi2 hi3 rfl (by omega) (.slice (some ⟨g, 0, none⟩) len cap) _ _ rfl HRw.out ⟨_, 0, none⟩ 1 1 [.int .i64 z] rfl rfl (cell_one_new _ _ _) ?c2 ?c3 ?c4 ?c5 ?_
                   case c2 => simp [Value.oneCell']
                   case c3 => unfold maxLen; omega
                   case c4 => omega
                   case c5 => exact HR8.out.below.size
                   intro v9 w9 hown9 hg9 _ hat9
                   have hR9 := HR8.out.app S (v' := v9) (by rw [HLen.out]; exact hown9) hg9 hat9
                   obtain ⟨g9, cap9, hv9, hcl9⟩ := hR9.row.form (by rw [List.length_append]; simp)
                   have hlen9 : (ids ++ [z]).length = len + 1 := by rw [List.length_append, HLen.out]; rfl
                   have hlast := hcl9 len (by omega)
                   rw [show (ids ++ [z])[len]'(by omega) = z by rw [List.getElem_append_right (by have := HLen.out; omega)]; simp] at hlast
                   rw [hlen9] at hv9
                   have HR9 := Lib.hid hR9
                   subst hv9
                   have HLen9 := Lib.hid hlen9
                   clear hcl9 hlen9 hR9 hown9 hg9 hat9)
                | fail)
              refine (lawLaws10 S N x y z (2 * P) HR9.out.aa HR9.out.canon HX7.out HY7.out HZ7.out (by have := HP1.out; omega) (by have := HL7.out; have := HNum.out; omega)).mono ?_
              rintro e w10 ⟨rfl, ns10, hs10, hu10⟩
              obtain ⟨F10, hR10, hl10⟩ := HR9.out.op hs10
              have HR10 := Lib.hid hR10
              have HW10 : Hid (∀ u ∈ ids ++ [z], LenW ns10 (2 * P) P P u) := Lib.hid (fun u hu => (HW7.out u hu).upTo HR9.out.canon.fine hu10)
              have HL10 := Lib.hid hl10
              clear hs10 hu10 hR10 hl10 hlast
              go_wp2_with fail
              refine ⟨⟨j + 1, ns10, F10, ids ++ [z], by omega, by go_num, ⟨by have := HLen9.out; omega, by have := HLen9.out; omega⟩, by have := HL10.out; have := HL7.out; have := HNum.out; omega, HR10, Lib.hid (by rw [HG.out.1, HG.out.2.1, HG.out.2.2]; exact HW10.out)⟩, by simp [intOf] <;> omega⟩
            · have E4 : (j + 4) / 5 = q + 1 := by omega
              have E5 : (j + 3) / 5 = q := by omega
              have E3 : (j + 2) / 5 = q := by omega
              have G4 : (j + 1 + 4) / 5 = q + 1 := by omega
              have G5 : (j + 1 + 3) / 5 = q + 1 := by omega
              have G3 : (j + 1 + 2) / 5 = q := by omega
              rw [E4, E5, E3] at HX HY HW
              simp only [hP2, hP] at HX HY HW
              have HG : Hid (2 ^ ((j + 1 + 4) / 5) = (2 * P) ∧ 2 ^ ((j + 1 + 3) / 5) = (2 * P) ∧ 2 ^ ((j + 1 + 2) / 5) = P) := Lib.hid (by rw [G4, G5, G3]; simp only [hP2, hP]; exact ⟨trivial, trivial, trivial⟩)
              replace t5 : Int.tmod (j : Int) 5 = 1 := by rw [t5, h5]; rfl
              clear E4 E5 E3 G4 G5 G3 hq hP hP2 h5
              go_wp2_with fail
              refine (stAnd N (HSq.out.alloc S (.cells #[.int .i64 x, .int .i64 y] 3)) [x, y] (list_two _ x y 3) (in2 HX.out.1.1 HY.out.1.1) (2 * P) (by rw [memN_two]; have := HX.out.1.2.2.1; have := HY.out.1.2.2.1; omega) (by have := HNum.out; omega)).mono ?_
              rintro e w7 ⟨z, ns7, rfl, hs7, hu7, hj7⟩
              have HLz : Hid (LenW ns7 (2 * P) (2 * P) P z) := Lib.hid (and_lenw hs7.canon (HX.out.upTo HR.out.canon.fine hu7) (HY.out.upTo HR.out.canon.fine hu7) (by have := HP1.out; omega) HP1.out HP1.out hj7)
              obtain ⟨F7, hR7, hl7⟩ := HRq.out.op hs7
              have HW7 : Hid (∀ u ∈ ids ++ [z], LenW ns7 (2 * P) (2 * P) P u) := Lib.hid (fun u hu => by
                rw [List.mem_append, List.mem_singleton] at hu
                rcases hu with hu | rfl
                · exact ((HW.out u hu).upTo HR.out.canon.fine hu7).mono (by omega) (by omega) (by omega)
                · exact HLz.out)
              have HX7 := Lib.hid (((HX.out.upTo HR.out.canon.fine hu7).mono (V4 := 2 * P) (V5 := 2 * P) (V3 := 2 * P) (by omega) (by omega) (by omega)).1)
              have HY7 := Lib.hid (((HY.out.upTo HR.out.canon.fine hu7).mono (V4 := 2 * P) (V5 := 2 * P) (V3 := 2 * P) (by omega) (by omega) (by omega)).1)
              have HZ7 := Lib.hid ((HLz.out.mono (V4 := 2 * P) (V5 := 2 * P) (V3 := 2 * P) (by omega) (by omega) (by omega)).1)
              have HR8 := Lib.hid (hR7.alloc S (.cells #[.int .i64 z] 3))
              have HRw : Hid (((w7.alloc (.cells #[.int .i64 z] 3))).ownsRow w.heap.size 3 1 (.slice (some ⟨g, 0, none⟩) len cap) len (idL ids)) := Lib.hid (by have q := HR8.out.row; unfold IdRow at q; rw [HLen.out] at q; exact q)
              have HL7 := Lib.hid hl7
              have hids1 := HNum.out.2.2.2.2
              have hids2 := HLen.out
              have hz0 : 0 ≤ z := HZ7.out.1.1
              have hz1 : ¬ z < 0 := by omega
              have hz2 : decide (z < 0) = false := decide_eq_false hz1
              clear hs7 hu7 hj7 hR7 hl7 t5
              go_wp2_with (first
                | (at_builtin
                   refine wpList_append_own_at _ rfl _ _ _ rfl w.heap.size 3 i0 _ 1 8 Try.underlying28 hi0 hi1 hi2 hi3 rfl (by omega) (.slice (some ⟨g, 0, none⟩) len cap) _ _ rfl HRw.out ⟨_, 0, none⟩ 1 1 [.int .i64 z] rfl rfl (cell_one_new _ _ _) ?c2 ?c3 ?c4 ?c5 ?_
                   case c2 => simp [Value.oneCell']
                   case c3 => unfold maxLen; omega
                   case c4 => omega
                   case c5 => exact HR8.out.below.size
                   intro v9 w9 hown9 hg9 _ hat9
                   have hR9 := HR8.out.app S (v' := v9) (by rw [HLen.out]; exact hown9) hg9 hat9
                   obtain ⟨g9, cap9, hv9, hcl9⟩ := hR9.row.form (by rw [List.length_append]; simp)
                   have hlen9 : (ids ++ [z]).length = len + 1 := by rw [List.length_append, HLen.out]; rfl
                   have hlast := hcl9 len (by omega)
                   rw [show (ids ++ [z])[len]'(by omega) = z by rw [List.getElem_append_right (by have := HLen.out; omega)]; simp] at hlast
                   rw [hlen9] at hv9
                   have HR9 := Lib.hid hR9
                   subst hv9
                   have HLen9 := Lib.hid hlen9
                   clear hcl9 hlen9 hR9 hown9 hg9 hat9)
                | fail)
              refine (lawLaws10 S N x y z (2 * P) HR9.out.aa HR9.out.canon HX7.out HY7.out HZ7.out (by have := HP1.out; omega) (by have := HL7.out; have := HNum.out; omega)).mono ?_
              rintro e w10 ⟨rfl, ns10, hs10, hu10⟩
              obtain ⟨F10, hR10, hl10⟩ := HR9.out.op hs10
              have HR10 := Lib.hid hR10
              have HW10 : Hid (∀ u ∈ ids ++ [z], LenW ns10 (2 * P) (2 * P) P u) := Lib.hid (fun u hu => (HW7.out u hu).upTo HR9.out.canon.fine hu10)
              have HL10 := Lib.hid hl10
              clear hs10 hu10 hR10 hl10 hlast
              go_wp2_with fail
              refine ⟨⟨j + 1, ns10, F10, ids ++ [z], by omega, by go_num, ⟨by have := HLen9.out; omega, by have := HLen9.out; omega⟩, by have := HL10.out; have := HL7.out; have := HNum.out; omega, HR10, Lib.hid (by rw [HG.out.1, HG.out.2.1, HG.out.2.2]; exact HW10.out)⟩, by simp [intOf] <;> omega⟩
            · have E4 : (j + 4) / 5 = q + 1 := by omega
              have E5 : (j + 3) / 5 = q + 1 := by omega
              have E3 : (j + 2) / 5 = q := by omega
              have G4 : (j + 1 + 4) / 5 = q + 1 := by omega
              have G5 : (j + 1 + 3) / 5 = q + 1 := by omega
              have G3 : (j + 1 + 2) / 5 = q + 1 := by omega
              rw [E4, E5, E3] at HX HY HW
              simp only [hP2, hP] at HX HY HW
              have HG : Hid (2 ^ ((j + 1 + 4) / 5) = (2 * P) ∧ 2 ^ ((j + 1 + 3) / 5) = (2 * P) ∧ 2 ^ ((j + 1 + 2) / 5) = (2 * P)) := Lib.hid (by rw [G4, G5, G3]; simp only [hP2, hP]; exact ⟨trivial, trivial, trivial⟩)
              replace t5 : Int.tmod (j : Int) 5 = 2 := by rw [t5, h5]; rfl
              clear E4 E5 E3 G4 G5 G3 hq hP hP2 h5
              go_wp2_with fail
              refine (stCat N HSq.out x y HX.out.1.1 HY.out.1.1 P HX.out.1.2.2.2 (by have := HNum.out; omega)).mono ?_
              rintro e w7 ⟨z, ns7, rfl, hs7, hu7, hj7⟩
              have HLz : Hid (LenW ns7 (2 * P) (2 * P) (2 * P) z) := Lib.hid (cat_lenw hs7.canon (HX.out.upTo HR.out.canon.fine hu7) (HY.out.upTo HR.out.canon.fine hu7) (by have := HP1.out; omega) (by have := HP1.out; omega) HP1.out hj7)
              obtain ⟨F7, hR7, hl7⟩ := HRq.out.op hs7
              have HW7 : Hid (∀ u ∈ ids ++ [z], LenW ns7 (2 * P) (2 * P) (2 * P) u) := Lib.hid (fun u hu => by
                rw [List.mem_append, List.mem_singleton] at hu
                rcases hu with hu | rfl
                · exact ((HW.out u hu).upTo HR.out.canon.fine hu7).mono (by omega) (by omega) (by omega)
                · exact HLz.out)
              have HX7 := Lib.hid (((HX.out.upTo HR.out.canon.fine hu7).mono (V4 := 2 * P) (V5 := 2 * P) (V3 := 2 * P) (by omega) (by omega) (by omega)).1)
              have HY7 := Lib.hid (((HY.out.upTo HR.out.canon.fine hu7).mono (V4 := 2 * P) (V5 := 2 * P) (V3 := 2 * P) (by omega) (by omega) (by omega)).1)
              have HZ7 := Lib.hid ((HLz.out.mono (V4 := 2 * P) (V5 := 2 * P) (V3 := 2 * P) (by omega) (by omega) (by omega)).1)
              have HR8 := Lib.hid (hR7.alloc S (.cells #[.int .i64 z] 3))
              have HRw : Hid (((w7.alloc (.cells #[.int .i64 z] 3))).ownsRow w.heap.size 3 1 (.slice (some ⟨g, 0, none⟩) len cap) len (idL ids)) := Lib.hid (by have q := HR8.out.row; unfold IdRow at q; rw [HLen.out] at q; exact q)
              have HL7 := Lib.hid hl7
              have hids1 := HNum.out.2.2.2.2
              have hids2 := HLen.out
              have hz0 : 0 ≤ z := HZ7.out.1.1
              have hz1 : ¬ z < 0 := by omega
              have hz2 : decide (z < 0) = false := decide_eq_false hz1
              clear hs7 hu7 hj7 hR7 hl7 t5
              go_wp2_with (first
                | (at_builtin
                   refine wpList_append_own_at _ rfl _ _ _ rfl w.heap.size 3 i0 _ 1 8 Try.underlying28 hi0 hi1 hi2 hi3 rfl (by omega) (.slice (some ⟨g, 0, none⟩) len cap) _ _ rfl HRw.out ⟨_, 0, none⟩ 1 1 [.int .i64 z] rfl rfl (cell_one_new _ _ _) ?c2 ?c3 ?c4 ?c5 ?_
                   case c2 => simp [Value.oneCell']
                   case c3 => unfold maxLen; omega
                   case c4 => omega
                   case c5 => exact HR8.out.below.size
                   intro v9 w9 hown9 hg9 _ hat9
                   have hR9 := HR8.out.app S (v' := v9) (by rw [HLen.out]; exact hown9) hg9 hat9
                   obtain ⟨g9, cap9, hv9, hcl9⟩ := hR9.row.form (by rw [List.length_append]; simp)
                   have hlen9 : (ids ++ [z]).length = len + 1 := by rw [List.length_append, HLen.out]; rfl
                   have hlast := hcl9 len (by omega)
                   rw [show (ids ++ [z])[len]'(by omega) = z by rw [List.getElem_append_right (by have := HLen.out; omega)]; simp] at hlast
                   rw [hlen9] at hv9
                   have HR9 := Lib.hid hR9
                   subst hv9
                   have HLen9 := Lib.hid hlen9
                   clear hcl9 hlen9 hR9 hown9 hg9 hat9)
                | fail)
              refine (lawLaws10 S N x y z (2 * P) HR9.out.aa HR9.out.canon HX7.out HY7.out HZ7.out (by have := HP1.out; omega) (by have := HL7.out; have := HNum.out; omega)).mono ?_
              rintro e w10 ⟨rfl, ns10, hs10, hu10⟩
              obtain ⟨F10, hR10, hl10⟩ := HR9.out.op hs10
              have HR10 := Lib.hid hR10
              have HW10 : Hid (∀ u ∈ ids ++ [z], LenW ns10 (2 * P) (2 * P) (2 * P) u) := Lib.hid (fun u hu => (HW7.out u hu).upTo HR9.out.canon.fine hu10)
              have HL10 := Lib.hid hl10
              clear hs10 hu10 hR10 hl10 hlast
              go_wp2_with fail
              refine ⟨⟨j + 1, ns10, F10, ids ++ [z], by omega, by go_num, ⟨by have := HLen9.out; omega, by have := HLen9.out; omega⟩, by have := HL10.out; have := HL7.out; have := HNum.out; omega, HR10, Lib.hid (by rw [HG.out.1, HG.out.2.1, HG.out.2.2]; exact HW10.out)⟩, by simp [intOf] <;> omega⟩
            · have E4 : (j + 4) / 5 = q + 1 := by omega
              have E5 : (j + 3) / 5 = q + 1 := by omega
              have E3 : (j + 2) / 5 = q + 1 := by omega
              have G4 : (j + 1 + 4) / 5 = q + 1 := by omega
              have G5 : (j + 1 + 3) / 5 = q + 1 := by omega
              have G3 : (j + 1 + 2) / 5 = q + 1 := by omega
              rw [E4, E5, E3] at HX HY HW
              simp only [hP2, hP] at HX HY HW
              have HG : Hid (2 ^ ((j + 1 + 4) / 5) = (2 * P) ∧ 2 ^ ((j + 1 + 3) / 5) = (2 * P) ∧ 2 ^ ((j + 1 + 2) / 5) = (2 * P)) := Lib.hid (by rw [G4, G5, G3]; simp only [hP2, hP]; exact ⟨trivial, trivial, trivial⟩)
              replace t5 : Int.tmod (j : Int) 5 = 3 := by rw [t5, h5]; rfl
              clear E4 E5 E3 G4 G5 G3 hq hP hP2 h5
              go_wp2_with fail
              refine (stNot N HSq.out x HX.out.1.1 (by have := HNum.out; omega)).mono ?_
              rintro e w7 ⟨z, ns7, rfl, hs7, hu7, hj7⟩
              have HLz : Hid (LenW ns7 (2 * P) (2 * P) (2 * P) z) := Lib.hid (not_lenw hs7.canon (HX.out.upTo HR.out.canon.fine hu7) (by have := HP1.out; omega) (by have := HP1.out; omega) (by have := HP1.out; omega) hj7)
              obtain ⟨F7, hR7, hl7⟩ := HRq.out.op hs7
              have HW7 : Hid (∀ u ∈ ids ++ [z], LenW ns7 (2 * P) (2 * P) (2 * P) u) := Lib.hid (fun u hu => by
                rw [List.mem_append, List.mem_singleton] at hu
                rcases hu with hu | rfl
                · exact ((HW.out u hu).upTo HR.out.canon.fine hu7).mono (by omega) (by omega) (by omega)
                · exact HLz.out)
              have HX7 := Lib.hid (((HX.out.upTo HR.out.canon.fine hu7).mono (V4 := 2 * P) (V5 := 2 * P) (V3 := 2 * P) (by omega) (by omega) (by omega)).1)
              have HY7 := Lib.hid (((HY.out.upTo HR.out.canon.fine hu7).mono (V4 := 2 * P) (V5 := 2 * P) (V3 := 2 * P) (by omega) (by omega) (by omega)).1)
              have HZ7 := Lib.hid ((HLz.out.mono (V4 := 2 * P) (V5 := 2 * P) (V3 := 2 * P) (by omega) (by omega) (by omega)).1)
              have HR8 := Lib.hid (hR7.alloc S (.cells #[.int .i64 z] 3))
              have HRw : Hid (((w7.alloc (.cells #[.int .i64 z] 3))).ownsRow w.heap.size 3 1 (.slice (some ⟨g, 0, none⟩) len cap) len (idL ids)) := Lib.hid (by have q := HR8.out.row; unfold IdRow at q; rw [HLen.out] at q; exact q)
              have HL7 := Lib.hid hl7
              have hids1 := HNum.out.2.2.2.2
              have hids2 := HLen.out
              have hz0 : 0 ≤ z := HZ7.out.1.1
              have hz1 : ¬ z < 0 := by omega
              have hz2 : decide (z < 0) = false := decide_eq_false hz1
              clear hs7 hu7 hj7 hR7 hl7 t5
              go_wp2_with (first
                | (at_builtin
                   refine wpList_append_own_at _ rfl _ _ _ rfl w.heap.size 3 i0 _ 1 8 Try.underlying28 hi0 hi1 hi2 hi3 rfl (by omega) (.slice (some ⟨g, 0, none⟩) len cap) _ _ rfl HRw.out ⟨_, 0, none⟩ 1 1 [.int .i64 z] rfl rfl (cell_one_new _ _ _) ?c2 ?c3 ?c4 ?c5 ?_
                   case c2 => simp [Value.oneCell']
                   case c3 => unfold maxLen; omega
                   case c4 => omega
                   case c5 => exact HR8.out.below.size
                   intro v9 w9 hown9 hg9 _ hat9
                   have hR9 := HR8.out.app S (v' := v9) (by rw [HLen.out]; exact hown9) hg9 hat9
                   obtain ⟨g9, cap9, hv9, hcl9⟩ := hR9.row.form (by rw [List.length_append]; simp)
                   have hlen9 : (ids ++ [z]).length = len + 1 := by rw [List.length_append, HLen.out]; rfl
                   have hlast := hcl9 len (by omega)
                   rw [show (ids ++ [z])[len]'(by omega) = z by rw [List.getElem_append_right (by have := HLen.out; omega)]; simp] at hlast
                   rw [hlen9] at hv9
                   have HR9 := Lib.hid hR9
                   subst hv9
                   have HLen9 := Lib.hid hlen9
                   clear hcl9 hlen9 hR9 hown9 hg9 hat9)
                | fail)
              refine (lawLaws10 S N x y z (2 * P) HR9.out.aa HR9.out.canon HX7.out HY7.out HZ7.out (by have := HP1.out; omega) (by have := HL7.out; have := HNum.out; omega)).mono ?_
              rintro e w10 ⟨rfl, ns10, hs10, hu10⟩
              obtain ⟨F10, hR10, hl10⟩ := HR9.out.op hs10
              have HR10 := Lib.hid hR10
              have HW10 : Hid (∀ u ∈ ids ++ [z], LenW ns10 (2 * P) (2 * P) (2 * P) u) := Lib.hid (fun u hu => (HW7.out u hu).upTo HR9.out.canon.fine hu10)
              have HL10 := Lib.hid hl10
              clear hs10 hu10 hR10 hl10 hlast
              go_wp2_with fail
              refine ⟨⟨j + 1, ns10, F10, ids ++ [z], by omega, by go_num, ⟨by have := HLen9.out; omega, by have := HLen9.out; omega⟩, by have := HL10.out; have := HL7.out; have := HNum.out; omega, HR10, Lib.hid (by rw [HG.out.1, HG.out.2.1, HG.out.2.2]; exact HW10.out)⟩, by simp [intOf] <;> omega⟩
            · have E4 : (j + 4) / 5 = q + 1 := by omega
              have E5 : (j + 3) / 5 = q + 1 := by omega
              have E3 : (j + 2) / 5 = q + 1 := by omega
              have G4 : (j + 1 + 4) / 5 = q + 1 := by omega
              have G5 : (j + 1 + 3) / 5 = q + 1 := by omega
              have G3 : (j + 1 + 2) / 5 = q + 1 := by omega
              rw [E4, E5, E3] at HX HY HW
              simp only [hP2, hP] at HX HY HW
              have HG : Hid (2 ^ ((j + 1 + 4) / 5) = (2 * P) ∧ 2 ^ ((j + 1 + 3) / 5) = (2 * P) ∧ 2 ^ ((j + 1 + 2) / 5) = (2 * P)) := Lib.hid (by rw [G4, G5, G3]; simp only [hP2, hP]; exact ⟨trivial, trivial, trivial⟩)
              replace t5 : Int.tmod (j : Int) 5 = 4 := by rw [t5, h5]; rfl
              clear E4 E5 E3 G4 G5 G3 hq hP hP2 h5
              go_wp2_with fail
              refine (stStar N HSq.out x HX.out.1.1 (by have := HNum.out; omega)).mono ?_
              rintro e w7 ⟨z, ns7, rfl, hs7, hu7, hj7⟩
              have HLz : Hid (LenW ns7 (2 * P) (2 * P) (2 * P) z) := Lib.hid (star_lenw hs7.canon (HX.out.upTo HR.out.canon.fine hu7) (by have := HP1.out; omega) (by have := HP1.out; omega) (by have := HP1.out; omega) hj7)
              obtain ⟨F7, hR7, hl7⟩ := HRq.out.op hs7
              have HW7 : Hid (∀ u ∈ ids ++ [z], LenW ns7 (2 * P) (2 * P) (2 * P) u) := Lib.hid (fun u hu => by
                rw [List.mem_append, List.mem_singleton] at hu
                rcases hu with hu | rfl
                · exact ((HW.out u hu).upTo HR.out.canon.fine hu7).mono (by omega) (by omega) (by omega)
                · exact HLz.out)
              have HX7 := Lib.hid (((HX.out.upTo HR.out.canon.fine hu7).mono (V4 := 2 * P) (V5 := 2 * P) (V3 := 2 * P) (by omega) (by omega) (by omega)).1)
              have HY7 := Lib.hid (((HY.out.upTo HR.out.canon.fine hu7).mono (V4 := 2 * P) (V5 := 2 * P) (V3 := 2 * P) (by omega) (by omega) (by omega)).1)
              have HZ7 := Lib.hid ((HLz.out.mono (V4 := 2 * P) (V5 := 2 * P) (V3 := 2 * P) (by omega) (by omega) (by omega)).1)
              have HR8 := Lib.hid (hR7.alloc S (.cells #[.int .i64 z] 3))
              have HRw : Hid (((w7.alloc (.cells #[.int .i64 z] 3))).ownsRow w.heap.size 3 1 (.slice (some ⟨g, 0, none⟩) len cap) len (idL ids)) := Lib.hid (by have q := HR8.out.row; unfold IdRow at q; rw [HLen.out] at q; exact q)
              have HL7 := Lib.hid hl7
              have hids1 := HNum.out.2.2.2.2
              have hids2 := HLen.out
              have hz0 : 0 ≤ z := HZ7.out.1.1
              have hz1 : ¬ z < 0 := by omega
              have hz2 : decide (z < 0) = false := decide_eq_false hz1
              clear hs7 hu7 hj7 hR7 hl7 t5
              go_wp2_with (first
                | (at_builtin
                   refine wpList_append_own_at _ rfl _ _ _ rfl w.heap.size 3 i0 _ 1 8 Try.underlying28 hi0 hi1 hi2 hi3 rfl (by omega) (.slice (some ⟨g, 0, none⟩) len cap) _ _ rfl HRw.out ⟨_, 0, none⟩ 1 1 [.int .i64 z] rfl rfl (cell_one_new _ _ _) ?c2 ?c3 ?c4 ?c5 ?_
                   case c2 => simp [Value.oneCell']
                   case c3 => unfold maxLen; omega
                   case c4 => omega
                   case c5 => exact HR8.out.below.size
                   intro v9 w9 hown9 hg9 _ hat9
                   have hR9 := HR8.out.app S (v' := v9) (by rw [HLen.out]; exact hown9) hg9 hat9
                   obtain ⟨g9, cap9, hv9, hcl9⟩ := hR9.row.form (by rw [List.length_append]; simp)
                   have hlen9 : (ids ++ [z]).length = len + 1 := by rw [List.length_append, HLen.out]; rfl
                   have hlast := hcl9 len (by omega)
                   rw [show (ids ++ [z])[len]'(by omega) = z by rw [List.getElem_append_right (by have := HLen.out; omega)]; simp] at hlast
                   rw [hlen9] at hv9
                   have HR9 := Lib.hid hR9
                   subst hv9
                   have HLen9 := Lib.hid hlen9
                   clear hcl9 hlen9 hR9 hown9 hg9 hat9)
                | fail)
              refine (lawLaws10 S N x y z (2 * P) HR9.out.aa HR9.out.canon HX7.out HY7.out HZ7.out (by have := HP1.out; omega) (by have := HL7.out; have := HNum.out; omega)).mono ?_
              rintro e w10 ⟨rfl, ns10, hs10, hu10⟩
              obtain ⟨F10, hR10, hl10⟩ := HR9.out.op hs10
              have HR10 := Lib.hid hR10
              have HW10 : Hid (∀ u ∈ ids ++ [z], LenW ns10 (2 * P) (2 * P) (2 * P) u) := Lib.hid (fun u hu => (HW7.out u hu).upTo HR9.out.canon.fine hu10)
              have HL10 := Lib.hid hl10
              clear hs10 hu10 hR10 hl10 hlast
              go_wp2_with fail
              refine ⟨⟨j + 1, ns10, F10, ids ++ [z], by omega, by go_num, ⟨by have := HLen9.out; omega, by have := HLen9.out; omega⟩, by have := HL10.out; have := HL7.out; have := HNum.out; omega, HR10, Lib.hid (by rw [HG.out.1, HG.out.2.1, HG.out.2.2]; exact HW10.out)⟩, by simp [intOf] <;> omega⟩
          · obtain rfl : j = m := by omega
            go_wp2_with fail
            go_ret
            exact ⟨rfl, HR.out.below⟩
      · have HKK := Lib.hid hkk
        go_wp2_with fail
        refine (stLookNo N HS.out k neg HK.out hkk (by omega)).mono ?_
        rintro e w7 ⟨rfl, hs7⟩
        obtain ⟨F7, hR7, hl7⟩ := HR.out.op hs7
        have HR7 := Lib.hid hR7
        clear hs7 hR7
        have e1 : (decide (0 ≤ k) && decide (k < 4)) = false := by
          cases h1 : decide (0 ≤ k) with
          | false => rfl
          | true => exact decide_eq_false (fun h2 => HKK.out ⟨of_decide_eq_true h1, h2⟩)
        by_cases e0 : 0 ≤ k
        · have e2 : ¬ k < 4 := fun h => hkk ⟨e0, h⟩
          have e3 : decide (0 ≤ k) = true := decide_eq_true e0
          have e4 : decide (k < 4) = false := decide_eq_false e2
          clear e1 hkk
          go_wp2_with fail
          go_loopw [10, 71] (fun v x wr => ∃ (j : Nat) (ns : List Nd) (F : Nat → Prop) (ids : List Int), j ≤ m ∧ x = .int .i64 j ∧ (3 ≤ ids.length ∧ ids.length ≤ 14 + j) ∧ ns.length ≤ roomS j ∧ Hid (Rnd AA w wr a ns F v ids) ∧ Hid (∀ x ∈ ids, LenW ns (2 ^ ((j + 4) / 5)) (2 ^ ((j + 3) / 5)) (2 ^ ((j + 2) / 5)) x)) (fun _ x _ => m - (intOf x).toNat)
          case atStart => exact ⟨0, ns, F7, ids, Nat.zero_le _, rfl, by omega, by show ns.length ≤ 60; omega, HR7, HW⟩
          case round =>
            clear HR7 HW HR HS
            obtain ⟨j, ns, F, ids, hj, rfl, hids, hns, HR, HW⟩ := hrel
            by_cases hjl : j < m
            · have hj0 : (0 : Int) ≤ (j : Int) := by omega
              have hjm : (j : Int) < (m : Int) := by omega
              have hjp : j < p.length := by have := HPn.out; omega
              obtain ⟨bp, offp, hB, q0⟩ := byte_cell (HP.out.below HR.out.below) j hjp
              subst hB
              obtain ⟨pj, hpj⟩ : ∃ pj, p[j] = pj := ⟨_, rfl⟩
              rw [hpj] at q0
              have hp256 : pj < 256 := by rw [← hpj]; exact HP.out.2.2.1 j hjp
              clear hpj
              obtain ⟨g, cap, hv, hcl⟩ := HR.out.row.form (by omega)
              subst hv
              obtain ⟨len, hlen⟩ : ∃ len, ids.length = len := ⟨_, rfl⟩
              have hl0 : ¬ (len : Int) = 0 := by omega
              have hix : pj % len < len := Nat.mod_lt _ (by omega)
              have hiy : (pj * 7 + j) % len < len := Nat.mod_lt _ (by omega)
              have c1 := hcl (pj % len) (by omega)
              have c2 := hcl ((pj * 7 + j) % len) (by omega)
              have HXm := Lib.hid (List.getElem_mem (l := ids) (n := pj % len) (by omega))
              have HYm := Lib.hid (List.getElem_mem (l := ids) (n := (pj * 7 + j) % len) (by omega))
              rw [hlen]
              have t1 : Int.tmod (pj : Int) (len : Int) = ((pj % len : Nat) : Int) := tmod_nat pj len
              have t2 : Int.tmod ((pj : Int) * 7 + (j : Int)) (len : Int) = (((pj * 7 + j) % len : Nat) : Int) := by rw [← tmod_nat]; push_cast; rfl
              obtain ⟨ix, hixe⟩ : ∃ ix, pj % len = ix := ⟨_, rfl⟩
              obtain ⟨iy, hiye⟩ : ∃ iy, (pj * 7 + j) % len = iy := ⟨_, rfl⟩
              simp only [hixe] at hix c1 t1 HXm
              simp only [hiye] at hiy c2 t2 HYm
              obtain ⟨x, hx⟩ : ∃ x, ids[ix] = x := ⟨_, rfl⟩
              obtain ⟨y, hy⟩ : ∃ y, ids[iy] = y := ⟨_, rfl⟩
              rw [hx] at c1 HXm
              rw [hy] at c2 HYm
              have hix1 : (ix : Int) < (len : Int) := by omega
              have hiy1 : (iy : Int) < (len : Int) := by omega
              have hix0 : (0 : Int) ≤ (ix : Int) := by omega
              have hiy0 : (0 : Int) ≤ (iy : Int) := by omega
              have HLen := Lib.hid hlen
              clear hcl hx hy hixe hiye hlen
              go_wp2_with fail
              go_quiet (fail)
              have HRq := Lib.hid (HR.out.drewN S nq)
              have HSq : Hid (LSt AA (wr.drewN nq) (wr.drewN nq) a ns F 0 ns) := Lib.hid (LSt.start HRq.out.aa HRq.out.canon)
              have hroom := room_ok j (by omega)
              have t5 : Int.tmod (j : Int) 5 = ((j % 5 : Nat) : Int) := tmod_nat j 5
              obtain ⟨q, hq⟩ : ∃ q, j / 5 = q := ⟨_, rfl⟩
              obtain ⟨P, hP⟩ : ∃ P, 2 ^ q = P := ⟨_, rfl⟩
              have hP1 : 1 ≤ P := by rw [← hP]; exact Nat.one_le_two_pow
              have hP2 : 2 ^ (q + 1) = 2 * P := by rw [Nat.pow_succ, hP]; omega
              have hrs : roomS (j + 1) = roomS j + (20 * (2 * P) + 123) := by show roomS j + (20 * 2 ^ (j / 5 + 1) + 123) = _; rw [hq, hP2]
              rw [hq, hP2] at hroom
              have HNum := Lib.hid (And.intro hroom (And.intro hrs (And.intro hP1 (And.intro hns hids))))
              have HP1 := Lib.hid hP1
              have HX := Lib.hid (HW.out x HXm.out)
              have HY := Lib.hid (HW.out y HYm.out)
              clear c1 c2 t1 t2 hl0 hix hiy hix1 hiy1 hix0 hiy0 q0 hp256 hroom hrs
              have h5 : j % 5 = 0 ∨ j % 5 = 1 ∨ j % 5 = 2 ∨ j % 5 = 3 ∨ j % 5 = 4 := by omega
              rcases h5 with h5 | h5 | h5 | h5 | h5
              · have E4 : (j + 4) / 5 = q := by omega
                have E5 : (j + 3) / 5 = q := by omega
                have E3 : (j + 2) / 5 = q := by omega
                have G4 : (j + 1 + 4) / 5 = q + 1 := by omega
                have G5 : (j + 1 + 3) / 5 = q := by omega
                have G3 : (j + 1 + 2) / 5 = q := by omega
                rw [E4, E5, E3] at HX HY HW
                simp only [hP2, hP] at HX HY HW
                have HG : Hid (2 ^ ((j + 1 + 4) / 5) = (2 * P) ∧ 2 ^ ((j + 1 + 3) / 5) = P ∧ 2 ^ ((j + 1 + 2) / 5) = P) := Lib.hid (by rw [G4, G5, G3]; simp only [hP2, hP]; exact ⟨trivial, trivial, trivial⟩)
                replace t5 : Int.tmod (j : Int) 5 = 0 := by rw [t5, h5]; rfl
                clear E4 E5 E3 G4 G5 G3 hq hP hP2 h5
                go_wp2_with fail
                refine (stOr N (HSq.out.alloc S (.cells #[.int .i64 x, .int .i64 y] 3)) [x, y] (list_two _ x y 3) (in2 HX.out.1.1 HY.out.1.1) (2 * P) (by rw [memN_two]; have := HX.out.1.2.1; have := HY.out.1.2.1; omega) (by have := HNum.out; omega)).mono ?_
                rintro e w7 ⟨z, ns7, rfl, hs7, hu7, hj7⟩
                have HLz : Hid (LenW ns7 (2 * P) P P z) := Lib.hid (or_lenw hs7.canon (HX.out.upTo HR.out.canon.fine hu7) (HY.out.upTo HR.out.canon.fine hu7) HP1.out HP1.out HP1.out hj7)
                obtain ⟨F7, hR7, hl7⟩ := HRq.out.op hs7
                have HW7 : Hid (∀ u ∈ ids ++ [z], LenW ns7 (2 * P) P P u) := Lib.hid (fun u hu => by
                  rw [List.mem_append, List.mem_singleton] at hu
                  rcases hu with hu | rfl
                  · exact ((HW.out u hu).upTo HR.out.canon.fine hu7).mono (by omega) (by omega) (by omega)
                  · exact HLz.out)
                have HX7 := Lib.hid (((HX.out.upTo HR.out.canon.fine hu7).mono (V4 := 2 * P) (V5 := 2 * P) (V3 := 2 * P) (by omega) (by omega) (by omega)).1)
                have HY7 := Lib.hid (((HY.out.upTo HR.out.canon.fine hu7).mono (V4 := 2 * P) (V5 := 2 * P) (V3 := 2 * P) (by omega) (by omega) (by omega)).1)
                have HZ7 := Lib.hid ((HLz.out.mono (V4 := 2 * P) (V5 := 2 * P) (V3 := 2 * P) (by omega) (by omega) (by omega)).1)
                have HR8 := Lib.hid (hR7.alloc S (.cells #[.int .i64 z] 3))
                have HRw : Hid (((w7.alloc (.cells #[.int .i64 z] 3))).ownsRow w.heap.size 3 1 (.slice (some ⟨g, 0, none⟩) len cap) len (idL ids)) := Lib.hid (by have q := HR8.out.row; unfold IdRow at q; rw [HLen.out] at q; exact q)
                have HL7 := Lib.hid hl7
                have hids1 := HNum.out.2.2.2.2
                have hids2 := HLen.out
                have hz0 : 0 ≤ z := HZ7.out.1.1
                have hz1 : ¬ z < 0 := by omega
                have hz2 : decide (z < 0) = false := decide_eq_false hz1
                clear hs7 hu7 hj7 hR7 hl7 t5
                go_wp2_with (first
                  | (at_builtin
                     refine wpList_append_own_at _ rfl _ _ _ rfl w.heap.size 3 i0 _ 1 8 Try.underlying28 hi0 hi1 hi2 hi3 rfl (by omega) (.slice (some ⟨g, 0, none⟩) len cap) _ _ rfl HRw.out ⟨_, 0, none⟩ 1 1 [.int .i64 z] rfl rfl (cell_one_new _ _ _) ?c2 ?c3 ?c4 ?c5 ?_
                     case c2 => simp [Value.oneCell']
                     case c3 => unfold maxLen; omega
                     case c4 => omega
                     case c5 => exact HR8.out.below.size
                     intro v9 w9 hown9 hg9 _ hat9
                     have hR9 := HR8.out.app S (v' := v9) (by rw [HLen.out]; exact hown9) hg9 hat9
                     obtain ⟨g9, cap9, hv9, hcl9⟩ := hR9.row.form (by rw [List.length_append]; simp)
                     have hlen9 : (ids ++ [z]).length = len + 1 := by rw [List.length_append, HLen.out]; rfl
                     have hlast := hcl9 len (by omega)
                     rw [show (ids ++ [z])[len]'(by omega) = z by rw [List.getElem_append_right (by have := HLen.out; omega)]; simp] at hlast
                     rw [hlen9] at hv9
                     have HR9 := Lib.hid hR9
                     subst hv9
                     have HLen9 := Lib.hid hlen9
                     clear hcl9 hlen9 hR9 hown9 hg9 hat9)
                  | fail)
                refine (lawLaws10 S N x y z (2 * P) HR9.out.aa HR9.out.canon HX7.out HY7.out HZ7.out (by have := HP1.out; omega) (by have := HL7.out; have := HNum.out; omega)).mono ?_
                rintro e w10 ⟨rfl, ns10, hs10, hu10⟩
                obtain ⟨F10, hR10, hl10⟩ := HR9.out.op hs10
                have HR10 := Lib.hid hR10
                have HW10 : Hid (∀ u ∈ ids ++ [z], LenW ns10 (2 * P) P P u) := Lib.hid (fun u hu => (HW7.out u hu).upTo HR9.out.canon.fine hu10)
                have HL10 := Lib.hid hl10
                clear hs10 hu10 hR10 hl10 hlast
                go_wp2_with fail
                refine ⟨⟨j + 1, ns10, F10, ids ++ [z], by omega, by go_num, ⟨by have := HLen9.out; omega, by have := HLen9.out; omega⟩, by have := HL10.out; have := HL7.out; have := HNum.out; omega, HR10, Lib.hid (by rw [HG.out.1, HG.out.2.1, HG.out.2.2]; exact HW10.out)⟩, by simp [intOf] <;> omega⟩
              · have E4 : (j + 4) / 5 = q + 1 := by omega
                have E5 : (j + 3) / 5 = q := by omega
                have E3 : (j + 2) / 5 = q := by omega
                have G4 : (j + 1 + 4) / 5 = q + 1 := by omega
                have G5 : (j + 1 + 3) / 5 = q + 1 := by omega
                have G3 : (j + 1 + 2) / 5 = q := by omega
                rw [E4, E5, E3] at HX HY HW
                simp only [hP2, hP] at HX HY HW
                have HG : Hid (2 ^ ((j + 1 + 4) / 5) = (2 * P) ∧ 2 ^ ((j + 1 + 3) / 5) = (2 * P) ∧ 2 ^ ((j + 1 + 2) / 5) = P) := Lib.hid (by rw [G4, G5, G3]; simp only [hP2, hP]; exact ⟨trivial, trivial, trivial⟩)
                replace t5 : Int.tmod (j : Int) 5 = 1 := by rw [t5, h5]; rfl
                clear E4 E5 E3 G4 G5 G3 hq hP hP2 h5
                go_wp2_with fail
                refine (stAnd N (HSq.out.alloc S (.cells #[.int .i64 x, .int .i64 y] 3)) [x, y] (list_two _ x y 3) (in2 HX.out.1.1 HY.out.1.1) (2 * P) (by rw [memN_two]; have := HX.out.1.2.2.1; have := HY.out.1.2.2.1; omega) (by have := HNum.out; omega)).mono ?_
                rintro e w7 ⟨z, ns7, rfl, hs7, hu7, hj7⟩
                have HLz : Hid (LenW ns7 (2 * P) (2 * P) P z) := Lib.hid (and_lenw hs7.canon (HX.out.upTo HR.out.canon.fine hu7) (HY.out.upTo HR.out.canon.fine hu7) (by have := HP1.out; omega) HP1.out HP1.out hj7)
                obtain ⟨F7, hR7, hl7⟩ := HRq.out.op hs7
                have HW7 : Hid (∀ u ∈ ids ++ [z], LenW ns7 (2 * P) (2 * P) P u) := Lib.hid (fun u hu => by
                  rw [List.mem_append, List.mem_singleton] at hu
                  rcases hu with hu | rfl
                  · exact ((HW.out u hu).upTo HR.out.canon.fine hu7).mono (by omega) (by omega) (by omega)
                  · exact HLz.out)
                have HX7 := Lib.hid (((HX.out.upTo HR.out.canon.fine hu7).mono (V4 := 2 * P) (V5 := 2 * P) (V3 := 2 * P) (by omega) (by omega) (by omega)).1)
                have HY7 := Lib.hid (((HY.out.upTo HR.out.canon.fine hu7).mono (V4 := 2 * P) (V5 := 2 * P) (V3 := 2 * P) (by omega) (by omega) (by omega)).1)
                have HZ7 := Lib.hid ((HLz.out.mono (V4 := 2 * P) (V5 := 2 * P) (V3 := 2 * P) (by omega) (by omega) (by omega)).1)
                have HR8 := Lib.hid (hR7.alloc S (.cells #[.int .i64 z] 3))
                have HRw : Hid (((w7.alloc (.cells #[.int .i64 z] 3))).ownsRow w.heap.size 3 1 (.slice (some ⟨g, 0, none⟩) len cap) len (idL ids)) := Lib.hid (by have q := HR8.out.row; unfold IdRow at q; rw [HLen.out] at q; exact q)
                have HL7 := Lib.hid hl7
                have hids1 := HNum.out.2.2.2.2
                have hids2 := HLen.out
                have hz0 : 0 ≤ z := HZ7.out.1.1
                have hz1 : ¬ z < 0 := by omega
                have hz2 : decide (z < 0) = false := decide_eq_false hz1
                clear hs7 hu7 hj7 hR7 hl7 t5
                go_wp2_with (first
                  | (at_builtin
                     refine wpList_append_own_at _ rfl _ _ _ rfl w.heap.size 3 i0 _ 1 8 Try.underlying28 hi0 hi1 hi2 hi3 rfl (by omega) (.slice (some ⟨g, 0, none⟩) len cap) _ _ rfl HRw.out ⟨_, 0, none⟩ 1 1 [.int .i64 z] rfl rfl (cell_one_new _ _ _) ?c2 ?c3 ?c4 ?c5 ?_
                     case c2 => simp [Value.oneCell']
                     case c3 => unfold maxLen; omega
                     case c4 => omega
                     case c5 => exact HR8.out.below.size
                     intro v9 w9 hown9 hg9 _ hat9
                     have hR9 := HR8.out.app S (v' := v9) (by rw [HLen.out]; exact hown9) hg9 hat9
                     obtain ⟨g9, cap9, hv9, hcl9⟩ := hR9.row.form (by rw [List.length_append]; simp)
                     have hlen9 : (ids ++ [z]).length = len + 1 := by rw [List.length_append, HLen.out]; rfl
                     have hlast := hcl9 len (by omega)
                     rw [show (ids ++ [z])[len]'(by omega) = z by rw [List.getElem_append_right (by have := HLen.out; omega)]; simp] at hlast
                     rw [hlen9] at hv9
                     have HR9 := Lib.hid hR9
                     subst hv9
                     have HLen9 := Lib.hid hlen9
                     clear hcl9 hlen9 hR9 hown9 hg9 hat9)
                  | fail)
                refine (lawLaws10 S N x y z (2 * P) HR9.out.aa HR9.out.canon HX7.out HY7.out HZ7.out (by have := HP1.out; omega) (by have := HL7.out; have := HNum.out; omega)).mono ?_
                rintro e w10 ⟨rfl, ns10, hs10, hu10⟩
                obtain ⟨F10, hR10, hl10⟩ := HR9.out.op hs10
                have HR10 := Lib.hid hR10
                have HW10 : Hid (∀ u ∈ ids ++ [z], LenW ns10 (2 * P) (2 * P) P u) := Lib.hid (fun u hu => (HW7.out u hu).upTo HR9.out.canon.fine hu10)
                have HL10 := Lib.hid hl10
                clear hs10 hu10 hR10 hl10 hlast
                go_wp2_with fail
                refine ⟨⟨j + 1, ns10, F10, ids ++ [z], by omega, by go_num, ⟨by have := HLen9.out; omega, by have := HLen9.out; omega⟩, by have := HL10.out; have := HL7.out; have := HNum.out; omega, HR10, Lib.hid (by rw [HG.out.1, HG.out.2.1, HG.out.2.2]; exact HW10.out)⟩, by simp [intOf] <;> omega⟩
              · have E4 : (j + 4) / 5 = q + 1 := by omega
                have E5 : (j + 3) / 5 = q + 1 := by omega
                have E3 : (j + 2) / 5 = q := by omega
                have G4 : (j + 1 + 4) / 5 = q + 1 := by omega
                have G5 : (j + 1 + 3) / 5 = q + 1 := by omega
                have G3 : (j + 1 + 2) / 5 = q + 1 := by omega
                rw [E4, E5, E3] at HX HY HW
                simp only [hP2, hP] at HX HY HW
                have HG : Hid (2 ^ ((j + 1 + 4) / 5) = (2 * P) ∧ 2 ^ ((j + 1 + 3) / 5) = (2 * P) ∧ 2 ^ ((j + 1 + 2) / 5) = (2 * P)) := Lib.hid (by rw [G4, G5, G3]; simp only [hP2, hP]; exact ⟨trivial, trivial, trivial⟩)
                replace t5 : Int.tmod (j : Int) 5 = 2 := by rw [t5, h5]; rfl
                clear E4 E5 E3 G4 G5 G3 hq hP hP2 h5
                go_wp2_with fail
                refine (stCat N HSq.out x y HX.out.1.1 HY.out.1.1 P HX.out.1.2.2.2 (by have := HNum.out; omega)).mono ?_
                rintro e w7 ⟨z, ns7, rfl, hs7, hu7, hj7⟩
                have HLz : Hid (LenW ns7 (2 * P) (2 * P) (2 * P) z) := Lib.hid (cat_lenw hs7.canon (HX.out.upTo HR.out.canon.fine hu7) (HY.out.upTo HR.out.canon.fine hu7) (by have := HP1.out; omega) (by have := HP1.out; omega) HP1.out hj7)
                obtain ⟨F7, hR7, hl7⟩ := HRq.out.op hs7
                have HW7 : Hid (∀ u ∈ ids ++ [z], LenW ns7 (2 * P) (2 * P) (2 * P) u) := Lib.hid (fun u hu => by
                  rw [List.mem_append, List.mem_singleton] at hu
                  rcases hu with hu | rfl
                  · exact ((HW.out u hu).upTo HR.out.canon.fine hu7).mono (by omega) (by omega) (by omega)
                  · exact HLz.out)
                have HX7 := Lib.hid (((HX.out.upTo HR.out.canon.fine hu7).mono (V4 := 2 * P) (V5 := 2 * P) (V3 := 2 * P) (by omega) (by omega) (by omega)).1)
                have HY7 := Lib.hid (((HY.out.upTo HR.out.canon.fine hu7).mono (V4 := 2 * P) (V5 := 2 * P) (V3 := 2 * P) (by omega) (by omega) (by omega)).1)
                have HZ7 := Lib.hid ((HLz.out.mono (V4 := 2 * P) (V5 := 2 * P) (V3 := 2 * P) (by omega) (by omega) (by omega)).1)
                have HR8 := Lib.hid (hR7.alloc S (.cells #[.int .i64 z] 3))
                have HRw : Hid (((w7.alloc (.cells #[.int .i64 z] 3))).ownsRow w.heap.size 3 1 (.slice (some ⟨g, 0, none⟩) len cap) len (idL ids)) := Lib.hid (by have q := HR8.out.row; unfold IdRow at q; rw [HLen.out] at q; exact q)
                have HL7 := Lib.hid hl7
                have hids1 := HNum.out.2.2.2.2
                have hids2 := HLen.out
                have hz0 : 0 ≤ z := HZ7.out.1.1
                have hz1 : ¬ z < 0 := by omega
                have hz2 : decide (z < 0) = false := decide_eq_false hz1
                clear hs7 hu7 hj7 hR7 hl7 t5
                go_wp2_with (first
                  | (at_builtin
                     refine wpList_append_own_at _ rfl _ _ _ rfl w.heap.size 3 i0 _ 1 8 Try.underlying28 hi0 hi1 hi2 hi3 rfl (by omega) (.slice (some ⟨g, 0, none⟩) len cap) _ _ rfl HRw.out ⟨_, 0, none⟩ 1 1 [.int .i64 z] rfl rfl (cell_one_new _ _ _) ?c2 ?c3 ?c4 ?c5 ?_
                     case c2 => simp [Value.oneCell']
                     case c3 => unfold maxLen; omega
                     case c4 => omega
                     case c5 => exact HR8.out.below.size
                     intro v9 w9 hown9 hg9 _ hat9
                     have hR9 := HR8.out.app S (v' := v9) (by rw [HLen.out]; exact hown9) hg9 hat9
                     obtain ⟨g9, cap9, hv9, hcl9⟩ := hR9.row.form (by rw [List.length_append]; simp)
                     have hlen9 : (ids ++ [z]).length = len + 1 := by rw [List.length_append, HLen.out]; rfl
                     have hlast := hcl9 len (by omega)
                     rw [show (ids ++ [z])[len]'(by omega) = z by rw [List.getElem_append_right (by have := HLen.out; omega)]; simp] at hlast
                     rw [hlen9] at hv9
                     have HR9 := Lib.hid hR9
                     subst hv9
                     have HLen9 := Lib.hid hlen9
                     clear hcl9 hlen9 hR9 hown9 hg9 hat9)
                  | fail)
                refine (lawLaws10 S N x y z (2 * P) HR9.out.aa HR9.out.canon HX7.out HY7.out HZ7.out (by have := HP1.out; omega) (by have := HL7.out; have := HNum.out; omega)).mono ?_
                rintro e w10 ⟨rfl, ns10, hs10, hu10⟩
                obtain ⟨F10, hR10, hl10⟩ := HR9.out.op hs10
                have HR10 := Lib.hid hR10
                have HW10 : Hid (∀ u ∈ ids ++ [z], LenW ns10 (2 * P) (2 * P) (2 * P) u) := Lib.hid (fun u hu => (HW7.out u hu).upTo HR9.out.canon.fine hu10)
                have HL10 := Lib.hid hl10
                clear hs10 hu10 hR10 hl10 hlast
                go_wp2_with fail
                refine ⟨⟨j + 1, ns10, F10, ids ++ [z], by omega, by go_num, ⟨by have := HLen9.out; omega, by have := HLen9.out; omega⟩, by have := HL10.out; have := HL7.out; have := HNum.out; omega, HR10, Lib.hid (by rw [HG.out.1, HG.out.2.1, HG.out.2.2]; exact HW10.out)⟩, by simp [intOf] <;> omega⟩
              · have E4 : (j + 4) / 5 = q + 1 := by omega
                have E5 : (j + 3) / 5 = q + 1 := by omega
                have E3 : (j + 2) / 5 = q + 1 := by omega
                have G4 : (j + 1 + 4) / 5 = q + 1 := by omega
                have G5 : (j + 1 + 3) / 5 = q + 1 := by omega
                have G3 : (j + 1 + 2) / 5 = q + 1 := by omega
                rw [E4, E5, E3] at HX HY HW
                simp only [hP2, hP] at HX HY HW
                have HG : Hid (2 ^ ((j + 1 + 4) / 5) = (2 * P) ∧ 2 ^ ((j + 1 + 3) / 5) = (2 * P) ∧ 2 ^ ((j + 1 + 2) / 5) = (2 * P)) := Lib.hid (by rw [G4, G5, G3]; simp only [hP2, hP]; exact ⟨trivial, trivial, trivial⟩)
                replace t5 : Int.tmod (j : Int) 5 = 3 := by rw [t5, h5]; rfl
                clear E4 E5 E3 G4 G5 G3 hq hP hP2 h5
                go_wp2_with fail
                refine (stNot N HSq.out x HX.out.1.1 (by have := HNum.out; omega)).mono ?_
                rintro e w7 ⟨z, ns7, rfl, hs7, hu7, hj7⟩
                have HLz : Hid (LenW ns7 (2 * P) (2 * P) (2 * P) z) := Lib.hid (not_lenw hs7.canon (HX.out.upTo HR.out.canon.fine hu7) (by have := HP1.out; omega) (by have := HP1.out; omega) (by have := HP1.out; omega) hj7)
                obtain ⟨F7, hR7, hl7⟩ := HRq.out.op hs7
                have HW7 : Hid (∀ u ∈ ids ++ [z], LenW ns7 (2 * P) (2 * P) (2 * P) u) := Lib.hid (fun u hu => by
                  rw [List.mem_append, List.mem_singleton] at hu
                  rcases hu with hu | rfl
                  · exact ((HW.out u hu).upTo HR.out.canon.fine hu7).mono (by omega) (by omega) (by omega)
                  · exact HLz.out)
                have HX7 := Lib.hid (((HX.out.upTo HR.out.canon.fine hu7).mono (V4 := 2 * P) (V5 := 2 * P) (V3 := 2 * P) (by omega) (by omega) (by omega)).1)
                have HY7 := Lib.hid (((HY.out.upTo HR.out.canon.fine hu7).mono (V4 := 2 * P) (V5 := 2 * P) (V3 := 2 * P) (by omega) (by omega) (by omega)).1)
                have HZ7 := Lib.hid ((HLz.out.mono (V4 := 2 * P) (V5 := 2 * P) (V3 := 2 * P) (by omega) (by omega) (by omega)).1)
                have HR8 := Lib.hid (hR7.alloc S (.cells #[.int .i64 z] 3))
                have HRw : Hid (((w7.alloc (.cells #[.int .i64 z] 3))).ownsRow w.heap.size 3 1 (.slice (some ⟨g, 0, none⟩) len cap) len (idL ids)) := Lib.hid (by have q := HR8.out.row; unfold IdRow at q; rw [HLen.out] at q; exact q)
                have HL7 := Lib.hid hl7
                have hids1 := HNum.out.2.2.2.2
                have hids2 := HLen.out
                have hz0 : 0 ≤ z := HZ7.out.1.1
                have hz1 : ¬ z < 0 := by omega
                have hz2 : decide (z < 0) = false := decide_eq_false hz1
                clear hs7 hu7 hj7 hR7 hl7 t5
                go_wp2_with (first
                  | (at_builtin
                     refine wpList_append_own_at _ rfl _ _ _ rfl w.heap.size 3 i0 _ 1 8 Try.underlying28 hi0 hi1 hi2 hi3 rfl (by omega) (.slice (some ⟨g, 0, none⟩) len cap) _ _ rfl HRw.out ⟨_, 0, none⟩ 1 1 [.int .i64 z] rfl rfl (cell_one_new _ _ _) ?c2 ?c3 ?c4 ?c5 ?_
                     case c2 => simp [Value.oneCell']
                     case c3 => unfold maxLen; omega
                     case c4 => omega
                     case c5 => exact HR8.out.below.size
                     intro v9 w9 hown9 hg9 _ hat9
                     have hR9 := HR8.out.app S (v' := v9) (by rw [HLen.out]; exact hown9) hg9 hat9
                     obtain ⟨g9, cap9, hv9, hcl9⟩ := hR9.row.form (by rw [List.length_append]; simp)
                     have hlen9 : (ids ++ [z]).length = len + 1 := by rw [List.length_append, HLen.out]; rfl
                     have hlast := hcl9 len (by omega)
                     rw [show (ids ++ [z])[len]'(by omega) = z by rw [List.getElem_append_right (by have := HLen.out; omega)]; simp] at hlast
                     rw [hlen9] at hv9
                     have HR9 := Lib.hid hR9
                     subst hv9
                     have HLen9 := Lib.hid hlen9
                     clear hcl9 hlen9 hR9 hown9 hg9 hat9)
                  | fail)
                refine (lawLaws10 S N x y z (2 * P) HR9.out.aa HR9.out.canon HX7.out HY7.out HZ7.out (by have := HP1.out; omega) (by have := HL7.out; have := HNum.out; omega)).mono ?_
                rintro e w10 ⟨rfl, ns10, hs10, hu10⟩
                obtain ⟨F10, hR10, hl10⟩ := HR9.out.op hs10
                have HR10 := Lib.hid hR10
                have HW10 : Hid (∀ u ∈ ids ++ [z], LenW ns10 (2 * P) (2 * P) (2 * P) u) := Lib.hid (fun u hu => (HW7.out u hu).upTo HR9.out.canon.fine hu10)
                have HL10 := Lib.hid hl10
                clear hs10 hu10 hR10 hl10 hlast
                go_wp2_with fail
                refine ⟨⟨j + 1, ns10, F10, ids ++ [z], by omega, by go_num, ⟨by have := HLen9.out; omega, by have := HLen9.out; omega⟩, by have := HL10.out; have := HL7.out; have := HNum.out; omega, HR10, Lib.hid (by rw [HG.out.1, HG.out.2.1, HG.out.2.2]; exact HW10.out)⟩, by simp [intOf] <;> omega⟩
              · have E4 : (j + 4) / 5 = q + 1 := by omega
                have E5 : (j + 3) / 5 = q + 1 := by omega
                have E3 : (j + 2) / 5 = q + 1 := by omega
                have G4 : (j + 1 + 4) / 5 = q + 1 := by omega
                have G5 : (j + 1 + 3) / 5 = q + 1 := by omega
                have G3 : (j + 1 + 2) / 5 = q + 1 := by omega
                rw [E4, E5, E3] at HX HY HW
                simp only [hP2, hP] at HX HY HW
                have HG : Hid (2 ^ ((j + 1 + 4) / 5) = (2 * P) ∧ 2 ^ ((j + 1 + 3) / 5) = (2 * P) ∧ 2 ^ ((j + 1 + 2) / 5) = (2 * P)) := Lib.hid (by rw [G4, G5, G3]; simp only [hP2, hP]; exact ⟨trivial, trivial, trivial⟩)
                replace t5 : Int.tmod (j : Int) 5 = 4 := by rw [t5, h5]; rfl
                clear E4 E5 E3 G4 G5 G3 hq hP hP2 h5
                go_wp2_with fail
                refine (stStar N HSq.out x HX.out.1.1 (by have := HNum.out; omega)).mono ?_
                rintro e w7 ⟨z, ns7, rfl, hs7, hu7, hj7⟩
                have HLz : Hid (LenW ns7 (2 * P) (2 * P) (2 * P) z) := Lib.hid (star_lenw hs7.canon (HX.out.upTo HR.out.canon.fine hu7) (by have := HP1.out; omega) (by have := HP1.out; omega) (by have := HP1.out; omega) hj7)
                obtain ⟨F7, hR7, hl7⟩ := HRq.out.op hs7
                have HW7 : Hid (∀ u ∈ ids ++ [z], LenW ns7 (2 * P) (2 * P) (2 * P) u) := Lib.hid (fun u hu => by
                  rw [List.mem_append, List.mem_singleton] at hu
                  rcases hu with hu | rfl
                  · exact ((HW.out u hu).upTo HR.out.canon.fine hu7).mono (by omega) (by omega) (by omega)
                  · exact HLz.out)
                have HX7 := Lib.hid (((HX.out.upTo HR.out.canon.fine hu7).mono (V4 := 2 * P) (V5 := 2 * P) (V3 := 2 * P) (by omega) (by omega) (by omega)).1)
                have HY7 := Lib.hid (((HY.out.upTo HR.out.canon.fine hu7).mono (V4 := 2 * P) (V5 := 2 * P) (V3 := 2 * P) (by omega) (by omega) (by omega)).1)
                have HZ7 := Lib.hid ((HLz.out.mono (V4 := 2 * P) (V5 := 2 * P) (V3 := 2 * P) (by omega) (by omega) (by omega)).1)
                have HR8 := Lib.hid (hR7.alloc S (.cells #[.int .i64 z] 3))
                have HRw : Hid (((w7.alloc (.cells #[.int .i64 z] 3))).ownsRow w.heap.size 3 1 (.slice (some ⟨g, 0, none⟩) len cap) len (idL ids)) := Lib.hid (by have q := HR8.out.row; unfold IdRow at q; rw [HLen.out] at q; exact q)
                have HL7 := Lib.hid hl7
                have hids1 := HNum.out.2.2.2.2
                have hids2 := HLen.out
                have hz0 : 0 ≤ z := HZ7.out.1.1
                have hz1 : ¬ z < 0 := by omega
                have hz2 : decide (z < 0) = false := decide_eq_false hz1
                clear hs7 hu7 hj7 hR7 hl7 t5
                go_wp2_with (first
                  | (at_builtin
                     refine wpList_append_own_at _ rfl _ _ _ rfl w.heap.size 3 i0 _ 1 8 Try.underlying28 hi0 hi1 hi2 hi3 rfl (by omega) (.slice (some ⟨g, 0, none⟩) len cap) _ _ rfl HRw.out ⟨_, 0, none⟩ 1 1 [.int .i64 z] rfl rfl (cell_one_new _ _ _) ?c2 ?c3 ?c4 ?c5 ?_
                     case c2 => simp [Value.oneCell']
                     case c3 => unfold maxLen; omega
                     case c4 => omega
                     case c5 => exact HR8.out.below.size
                     intro v9 w9 hown9 hg9 _ hat9
                     have hR9 := HR8.out.app S (v' := v9) (by rw [HLen.out]; exact hown9) hg9 hat9
                     obtain ⟨g9, cap9, hv9, hcl9⟩ := hR9.row.form (by rw [List.length_append]; simp)
                     have hlen9 : (ids ++ [z]).length = len + 1 := by rw [List.length_append, HLen.out]; rfl
                     have hlast := hcl9 len (by omega)
                     rw [show (ids ++ [z])[len]'(by omega) = z by rw [List.getElem_append_right (by have := HLen.out; omega)]; simp] at hlast
                     rw [hlen9] at hv9
                     have HR9 := Lib.hid hR9
                     subst hv9
                     have HLen9 := Lib.hid hlen9
                     clear hcl9 hlen9 hR9 hown9 hg9 hat9)
                  | fail)
                refine (lawLaws10 S N x y z (2 * P) HR9.out.aa HR9.out.canon HX7.out HY7.out HZ7.out (by have := HP1.out; omega) (by have := HL7.out; have := HNum.out; omega)).mono ?_
                rintro e w10 ⟨rfl, ns10, hs10, hu10⟩
                obtain ⟨F10, hR10, hl10⟩ := HR9.out.op hs10
                have HR10 := Lib.hid hR10
                have HW10 : Hid (∀ u ∈ ids ++ [z], LenW ns10 (2 * P) (2 * P) (2 * P) u) := Lib.hid (fun u hu => (HW7.out u hu).upTo HR9.out.canon.fine hu10)
                have HL10 := Lib.hid hl10
                clear hs10 hu10 hR10 hl10 hlast
                go_wp2_with fail
                refine ⟨⟨j + 1, ns10, F10, ids ++ [z], by omega, by go_num, ⟨by have := HLen9.out; omega, by have := HLen9.out; omega⟩, by have := HL10.out; have := HL7.out; have := HNum.out; omega, HR10, Lib.hid (by rw [HG.out.1, HG.out.2.1, HG.out.2.2]; exact HW10.out)⟩, by simp [intOf] <;> omega⟩
            · obtain rfl : j = m := by omega
              go_wp2_with fail
              go_ret
              exact ⟨rfl, HR.out.below⟩
        · have e3 : decide (0 ≤ k) = false := decide_eq_false e0
          clear e1 hkk
          go_wp2_with fail
          go_loopw [10, 71] (fun v x wr => ∃ (j : Nat) (ns : List Nd) (F : Nat → Prop) (ids : List Int), j ≤ m ∧ x = .int .i64 j ∧ (3 ≤ ids.length ∧ ids.length ≤ 14 + j) ∧ ns.length ≤ roomS j ∧ Hid (Rnd AA w wr a ns F v ids) ∧ Hid (∀ x ∈ ids, LenW ns (2 ^ ((j + 4) / 5)) (2 ^ ((j + 3) / 5)) (2 ^ ((j + 2) / 5)) x)) (fun _ x _ => m - (intOf x).toNat)
          case atStart => exact ⟨0, ns, F7, ids, Nat.zero_le _, rfl, by omega, by show ns.length ≤ 60; omega, HR7, HW⟩
          case round =>
            clear HR7 HW HR HS
            obtain ⟨j, ns, F, ids, hj, rfl, hids, hns, HR, HW⟩ := hrel
            by_cases hjl : j < m
            · have hj0 : (0 : Int) ≤ (j : Int) := by omega
              have hjm : (j : Int) < (m : Int) := by omega
              have hjp : j < p.length := by have := HPn.out; omega
              obtain ⟨bp, offp, hB, q0⟩ := byte_cell (HP.out.below HR.out.below) j hjp
              subst hB
              obtain ⟨pj, hpj⟩ : ∃ pj, p[j] = pj := ⟨_, rfl⟩
              rw [hpj] at q0
              have hp256 : pj < 256 := by rw [← hpj]; exact HP.out.2.2.1 j hjp
              clear hpj
              obtain ⟨g, cap, hv, hcl⟩ := HR.out.row.form (by omega)
              subst hv
              obtain ⟨len, hlen⟩ : ∃ len, ids.length = len := ⟨_, rfl⟩
              have hl0 : ¬ (len : Int) = 0 := by omega
              have hix : pj % len < len := Nat.mod_lt _ (by omega)
              have hiy : (pj * 7 + j) % len < len := Nat.mod_lt _ (by omega)
              have c1 := hcl (pj % len) (by omega)
              have c2 := hcl ((pj * 7 + j) % len) (by omega)
              have HXm := Lib.hid (List.getElem_mem (l := ids) (n := pj % len) (by omega))
              have HYm := Lib.hid (List.getElem_mem (l := ids) (n := (pj * 7 + j) % len) (by omega))
              rw [hlen]
              have t1 : Int.tmod (pj : Int) (len : Int) = ((pj % len : Nat) : Int) := tmod_nat pj len
              have t2 : Int.tmod ((pj : Int) * 7 + (j : Int)) (len : Int) = (((pj * 7 + j) % len : Nat) : Int) := by rw [← tmod_nat]; push_cast; rfl
              obtain ⟨ix, hixe⟩ : ∃ ix, pj % len = ix := ⟨_, rfl⟩
              obtain ⟨iy, hiye⟩ : ∃ iy, (pj * 7 + j) % len = iy := ⟨_, rfl⟩
              simp only [hixe] at hix c1 t1 HXm
              simp only [hiye] at hiy c2 t2 HYm
              obtain ⟨x, hx⟩ : ∃ x, ids[ix] = x := ⟨_, rfl⟩
              obtain ⟨y, hy⟩ : ∃ y, ids[iy] = y := ⟨_, rfl⟩
              rw [hx] at c1 HXm
              rw [hy] at c2 HYm
              have hix1 : (ix : Int) < (len : Int) := by omega
              have hiy1 : (iy : Int) < (len : Int) := by omega
              have hix0 : (0 : Int) ≤ (ix : Int) := by omega
              have hiy0 : (0 : Int) ≤ (iy : Int) := by omega
              have HLen := Lib.hid hlen
              clear hcl hx hy hixe hiye hlen
              go_wp2_with fail
              go_quiet (fail)
              have HRq := Lib.hid (HR.out.drewN S nq)
              have HSq : Hid (LSt AA (wr.drewN nq) (wr.drewN nq) a ns F 0 ns) := Lib.hid (LSt.start HRq.out.aa HRq.out.canon)
              have hroom := room_ok j (by omega)
              have t5 : Int.tmod (j : Int) 5 = ((j % 5 : Nat) : Int) := tmod_nat j 5
              obtain ⟨q, hq⟩ : ∃ q, j / 5 = q := ⟨_, rfl⟩
              obtain ⟨P, hP⟩ : ∃ P, 2 ^ q = P := ⟨_, rfl⟩
              have hP1 : 1 ≤ P := by rw [← hP]; exact Nat.one_le_two_pow
              have hP2 : 2 ^ (q + 1) = 2 * P := by rw [Nat.pow_succ, hP]; omega
              have hrs : roomS (j + 1) = roomS j + (20 * (2 * P) + 123) := by show roomS j + (20 * 2 ^ (j / 5 + 1) + 123) = _; rw [hq, hP2]
              rw [hq, hP2] at hroom
              have HNum := Lib.hid (And.intro hroom (And.intro hrs (And.intro hP1 (And.intro hns hids))))
              have HP1 := Lib.hid hP1
              have HX := Lib.hid (HW.out x HXm.out)
              have HY := Lib.hid (HW.out y HYm.out)
              clear c1 c2 t1 t2 hl0 hix hiy hix1 hiy1 hix0 hiy0 q0 hp256 hroom hrs
              have h5 : j % 5 = 0 ∨ j % 5 = 1 ∨ j % 5 = 2 ∨ j % 5 = 3 ∨ j % 5 = 4 := by omega
              rcases h5 with h5 | h5 | h5 | h5 | h5
              · have E4 : (j + 4) / 5 = q := by omega
                have E5 : (j + 3) / 5 = q := by omega
                have E3 : (j + 2) / 5 = q := by omega
                have G4 : (j + 1 + 4) / 5 = q + 1 := by omega
                have G5 : (j + 1 + 3) / 5 = q := by omega
                have G3 : (j + 1 + 2) / 5 = q := by omega
                rw [E4, E5, E3] at HX HY HW
                simp only [hP2, hP] at HX HY HW
                have HG : Hid (2 ^ ((j + 1 + 4) / 5) = (2 * P) ∧ 2 ^ ((j + 1 + 3) / 5) = P ∧ 2 ^ ((j + 1 + 2) / 5) = P) := Lib.hid (by rw [G4, G5, G3]; simp only [hP2, hP]; exact ⟨trivial, trivial, trivial⟩)
                replace t5 : Int.tmod (j : Int) 5 = 0 := by rw [t5, h5]; rfl
                clear E4 E5 E3 G4 G5 G3 hq hP hP2 h5
                go_wp2_with fail
                refine (stOr N (HSq.out.alloc S (.cells #[.int .i64 x, .int .i64 y] 3)) [x, y] (list_two _ x y 3) (in2 HX.out.1.1 HY.out.1.1) (2 * P) (by rw [memN_two]; have := HX.out.1.2.1; have := HY.out.1.2.1; omega) (by have := HNum.out; omega)).mono ?_
                rintro e w7 ⟨z, ns7, rfl, hs7, hu7, hj7⟩
                have HLz : Hid (LenW ns7 (2 * P) P P z) := Lib.hid (or_lenw hs7.canon (HX.out.upTo HR.out.canon.fine hu7) (HY.out.upTo HR.out.canon.fine hu7) HP1.out HP1.out HP1.out hj7)
                obtain ⟨F7, hR7, hl7⟩ := HRq.out.op hs7
                have HW7 : Hid (∀ u ∈ ids ++ [z], LenW ns7 (2 * P) P P u) := Lib.hid (fun u hu => by
                  rw [List.mem_append, List.mem_singleton] at hu
                  rcases hu with hu | rfl
                  · exact ((HW.out u hu).upTo HR.out.canon.fine hu7).mono (by omega) (by omega) (by omega)
                  · exact HLz.out)
                have HX7 := Lib.hid (((HX.out.upTo HR.out.canon.fine hu7).mono (V4 := 2 * P) (V5 := 2 * P) (V3 := 2 * P) (by omega) (by omega) (by omega)).1)
                have HY7 := Lib.hid (((HY.out.upTo HR.out.canon.fine hu7).mono (V4 := 2 * P) (V5 := 2 * P) (V3 := 2 * P) (by omega) (by omega) (by omega)).1)
                have HZ7 := Lib.hid ((HLz.out.mono (V4 := 2 * P) (V5 := 2 * P) (V3 := 2 * P) (by omega) (by omega) (by omega)).1)
                have HR8 := Lib.hid (hR7.alloc S (.cells #[.int .i64 z] 3))
                have HRw : Hid (((w7.alloc (.cells #[.int .i64 z] 3))).ownsRow w.heap.size 3 1 (.slice (some ⟨g, 0, none⟩) len cap) len (idL ids)) := Lib.hid (by have q := HR8.out.row; unfold IdRow at q; rw [HLen.out] at q; exact q)
                have HL7 := Lib.hid hl7
                have hids1 := HNum.out.2.2.2.2
                have hids2 := HLen.out
                have hz0 : 0 ≤ z := HZ7.out.1.1
                have hz1 : ¬ z < 0 := by omega
                have hz2 : decide (z < 0) = false := decide_eq_false hz1
                clear hs7 hu7 hj7 hR7 hl7 t5
                go_wp2_with (first
                  | (at_builtin
                     refine wpList_append_own_at _ rfl _ _ _ rfl w.heap.size 3 i0 _ 1 8 Try.underlying28 hi0 hi1 hi2 hi3 rfl (by omega) (.slice (some ⟨g, 0, none⟩) len cap) _ _ rfl HRw.out ⟨_, 0, none⟩ 1 1 [.int .i64 z] rfl rfl (cell_one_new _ _ _) ?c2 ?c3 ?c4 ?c5 ?_
                     case c2 => simp [Value.oneCell']
                     case c3 => unfold maxLen; omega
                     case c4 => omega
                     case c5 => exact HR8.out.below.size
                     intro v9 w9 hown9 hg9 _ hat9
                     have hR9 := HR8.out.app S (v' := v9) (by rw [HLen.out]; exact hown9) hg9 hat9
                     obtain ⟨g9, cap9, hv9, hcl9⟩ := hR9.row.form (by rw [List.length_append]; simp)
                     have hlen9 : (ids ++ [z]).length = len + 1 := by rw [List.length_append, HLen.out]; rfl
                     have hlast := hcl9 len (by omega)
                     rw [show (ids ++ [z])[len]'(by omega) = z by rw [List.getElem_append_right (by have := HLen.out; omega)]; simp] at hlast
                     rw [hlen9] at hv9
                     have HR9 := Lib.hid hR9
                     subst hv9
                     have HLen9 := Lib.hid hlen9
                     clear hcl9 hlen9 hR9 hown9 hg9 hat9)
                  | fail)
                refine (lawLaws10 S N x y z (2 * P) HR9.out.aa HR9.out.canon HX7.out HY7.out HZ7.out (by have := HP1.out; omega) (by have := HL7.out; have := HNum.out; omega)).mono ?_
                rintro e w10 ⟨rfl, ns10, hs10, hu10⟩
                obtain ⟨F10, hR10, hl10⟩ := HR9.out.op hs10
                have HR10 := Lib.hid hR10
                have HW10 : Hid (∀ u ∈ ids ++ [z], LenW ns10 (2 * P) P P u) := Lib.hid (fun u hu => (HW7.out u hu).upTo HR9.out.canon.fine hu10)
                have HL10 := Lib.hid hl10
                clear hs10 hu10 hR10 hl10 hlast
                go_wp2_with fail
                refine ⟨⟨j + 1, ns10, F10, ids ++ [z], by omega, by go_num, ⟨by have := HLen9.out; omega, by have := HLen9.out; omega⟩, by have := HL10.out; have := HL7.out; have := HNum.out; omega, HR10, Lib.hid (by rw [HG.out.1, HG.out.2.1, HG.out.2.2]; exact HW10.out)⟩, by simp [intOf] <;> omega⟩
              · have E4 : (j + 4) / 5 = q + 1 := by omega
                have E5 : (j + 3) / 5 = q := by omega
                have E3 : (j + 2) / 5 = q := by omega
                have G4 : (j + 1 + 4) / 5 = q + 1 := by omega
                have G5 : (j + 1 + 3) / 5 = q + 1 := by omega
                have G3 : (j + 1 + 2) / 5 = q := by omega
                rw [E4, E5, E3] at HX HY HW
                simp only [hP2, hP] at HX HY HW
                have HG : Hid (2 ^ ((j + 1 + 4) / 5) = (2 * P) ∧ 2 ^ ((j + 1 + 3) / 5) = (2 * P) ∧ 2 ^ ((j + 1 + 2) / 5) = P) := Lib.hid (by rw [G4, G5, G3]; simp only [hP2, hP]; exact ⟨trivial, trivial, trivial⟩)
                replace t5 : Int.tmod (j : Int) 5 = 1 := by rw [t5, h5]; rfl
                clear E4 E5 E3 G4 G5 G3 hq hP hP2 h5
                go_wp2_with fail
                refine (stAnd N (HSq.out.alloc S (.cells #[.int .i64 x, .int .i64 y] 3)) [x, y] (list_two _ x y 3) (in2 HX.out.1.1 HY.out.1.1) (2 * P) (by rw [memN_two]; have := HX.out.1.2.2.1; have := HY.out.1.2.2.1; omega) (by have := HNum.out; omega)).mono ?_
                rintro e w7 ⟨z, ns7, rfl, hs7, hu7, hj7⟩
                have HLz : Hid (LenW ns7 (2 * P) (2 * P) P z) := Lib.hid (and_lenw hs7.canon (HX.out.upTo HR.out.canon.fine hu7) (HY.out.upTo HR.out.canon.fine hu7) (by have := HP1.out; omega) HP1.out HP1.out hj7)
                obtain ⟨F7, hR7, hl7⟩ := HRq.out.op hs7
                have HW7 : Hid (∀ u ∈ ids ++ [z], LenW ns7 (2 * P) (2 * P) P u) := Lib.hid (fun u hu => by
                  rw [List.mem_append, List.mem_singleton] at hu
                  rcases hu with hu | rfl
                  · exact ((HW.out u hu).upTo HR.out.canon.fine hu7).mono (by omega) (by omega) (by omega)
                  · exact HLz.out)
                have HX7 := Lib.hid (((HX.out.upTo HR.out.canon.fine hu7).mono (V4 := 2 * P) (V5 := 2 * P) (V3 := 2 * P) (by omega) (by omega) (by omega)).1)
                have HY7 := Lib.hid (((HY.out.upTo HR.out.canon.fine hu7).mono (V4 := 2 * P) (V5 := 2 * P) (V3 := 2 * P) (by omega) (by omega) (by omega)).1)
                have HZ7 := Lib.hid ((HLz.out.mono (V4 := 2 * P) (V5 := 2 * P) (V3 := 2 * P) (by omega) (by omega) (by omega)).1)
                have HR8 := Lib.hid (hR7.alloc S (.cells #[.int .i64 z] 3))
                have HRw : Hid (((w7.alloc (.cells #[.int .i64 z] 3))).ownsRow w.heap.size 3 1 (.slice (some ⟨g, 0, none⟩) len cap) len (idL ids)) := Lib.hid (by have q := HR8.out.row; unfold IdRow at q; rw [HLen.out] at q; exact q)
                have HL7 := Lib.hid hl7
                have hids1 := HNum.out.2.2.2.2
                have hids2 := HLen.out
                have hz0 : 0 ≤ z := HZ7.out.1.1
                have hz1 : ¬ z < 0 := by omega
                have hz2 : decide (z < 0) = false := decide_eq_false hz1
                clear hs7 hu7 hj7 hR7 hl7 t5
                go_wp2_with (first
                  | (at_builtin
                     refine wpList_append_own_at _ rfl _ _ _ rfl w.heap.size 3 i0 _ 1 8 Try.underlying28 hi0 hi1 hi2 hi3 rfl (by omega) (.slice (some ⟨g, 0, none⟩) len cap) _ _ rfl HRw.out ⟨_, 0, none⟩ 1 1 [.int .i64 z] rfl rfl (cell_one_new _ _ _) ?c2 ?c3 ?c4 ?c5 ?_
                     case c2 => simp [Value.oneCell']
                     case c3 => unfold maxLen; omega
                     case c4 => omega
                     case c5 => exact HR8.out.below.size
                     intro v9 w9 hown9 hg9 _ hat9
                     have hR9 := HR8.out.app S (v' := v9) (by rw [HLen.out]; exact hown9) hg9 hat9
                     obtain ⟨g9, cap9, hv9, hcl9⟩ := hR9.row.form (by rw [List.length_append]; simp)
                     have hlen9 : (ids ++ [z]).length = len + 1 := by rw [List.length_append, HLen.out]; rfl
                     have hlast := hcl9 len (by omega)
                     rw [show (ids ++ [z])[len]'(by omega) = z by rw [List.getElem_append_right (by have := HLen.out; omega)]; simp] at hlast
                     rw [hlen9] at hv9
                     have HR9 := Lib.hid hR9
                     subst hv9
                     have HLen9 := Lib.hid hlen9
                     clear hcl9 hlen9 hR9 hown9 hg9 hat9)
                  | fail)
                refine (lawLaws10 S N x y z (2 * P) HR9.out.aa HR9.out.canon HX7.out HY7.out HZ7.out (by have := HP1.out; omega) (by have := HL7.out; have := HNum.out; omega)).mono ?_
                rintro e w10 ⟨rfl, ns10, hs10, hu10⟩
                obtain ⟨F10, hR10, hl10⟩ := HR9.out.op hs10
                have HR10 := Lib.hid hR10
                have HW10 : Hid (∀ u ∈ ids ++ [z], LenW ns10 (2 * P) (2 * P) P u) := Lib.hid (fun u hu => (HW7.out u hu).upTo HR9.out.canon.fine hu10)
                have HL10 := Lib.hid hl10
                clear hs10 hu10 hR10 hl10 hlast
                go_wp2_with fail
                refine ⟨⟨j + 1, ns10, F10, ids ++ [z], by omega, by go_num, ⟨by have := HLen9.out; omega, by have := HLen9.out; omega⟩, by have := HL10.out; have := HL7.out; have := HNum.out; omega, HR10, Lib.hid (by rw [HG.out.1, HG.out.2.1, HG.out.2.2]; exact HW10.out)⟩, by simp [intOf] <;> omega⟩
              · have E4 : (j + 4) / 5 = q + 1 := by omega
                have E5 : (j + 3) / 5 = q + 1 := by omega
                have E3 : (j + 2) / 5 = q := by omega
                have G4 : (j + 1 + 4) / 5 = q + 1 := by omega
                have G5 : (j + 1 + 3) / 5 = q + 1 := by omega
                have G3 : (j + 1 + 2) / 5 = q + 1 := by omega
                rw [E4, E5, E3] at HX HY HW
                simp only [hP2, hP] at HX HY HW
                have HG : Hid (2 ^ ((j + 1 + 4) / 5) = (2 * P) ∧ 2 ^ ((j + 1 + 3) / 5) = (2 * P) ∧ 2 ^ ((j + 1 + 2) / 5) = (2 * P)) := Lib.hid (by rw [G4, G5, G3]; simp only [hP2, hP]; exact ⟨trivial, trivial, trivial⟩)
                replace t5 : Int.tmod (j : Int) 5 = 2 := by rw [t5, h5]; rfl
                clear E4 E5 E3 G4 G5 G3 hq hP hP2 h5
                go_wp2_with fail
                refine (stCat N HSq.out x y HX.out.1.1 HY.out.1.1 P HX.out.1.2.2.2 (by have := HNum.out; omega)).mono ?_
                rintro e w7 ⟨z, ns7, rfl, hs7, hu7, hj7⟩
                have HLz : Hid (LenW ns7 (2 * P) (2 * P) (2 * P) z) := Lib.hid (cat_lenw hs7.canon (HX.out.upTo HR.out.canon.fine hu7) (HY.out.upTo HR.out.canon.fine hu7) (by have := HP1.out; omega) (by have := HP1.out; omega) HP1.out hj7)
                obtain ⟨F7, hR7, hl7⟩ := HRq.out.op hs7
                have HW7 : Hid (∀ u ∈ ids ++ [z], LenW ns7 (2 * P) (2 * P) (2 * P) u) := Lib.hid (fun u hu => by
                  rw [List.mem_append, List.mem_singleton] at hu
                  rcases hu with hu | rfl
                  · exact ((HW.out u hu).upTo HR.out.canon.fine hu7).mono (by omega) (by omega) (by omega)
                  · exact HLz.out)
                have HX7 := Lib.hid (((HX.out.upTo HR.out.canon.fine hu7).mono (V4 := 2 * P) (V5 := 2 * P) (V3 := 2 * P) (by omega) (by omega) (by omega)).1)
                have HY7 := Lib.hid (((HY.out.upTo HR.out.canon.fine hu7).mono (V4 := 2 * P) (V5 := 2 * P) (V3 := 2 * P) (by omega) (by omega) (by omega)).1)
                have HZ7 := Lib.hid ((HLz.out.mono (V4 := 2 * P) (V5 := 2 * P) (V3 := 2 * P) (by omega) (by omega) (by omega)).1)
                have HR8 := Lib.hid (hR7.alloc S (.cells #[.int .i64 z] 3))
                have HRw : Hid (((w7.alloc (.cells #[.int .i64 z] 3))).ownsRow w.heap.size 3 1 (.slice (some ⟨g, 0, none⟩) len cap) len (idL ids)) := Lib.hid (by have q := HR8.out.row; unfold IdRow at q; rw [HLen.out] at q; exact q)
                have HL7 := Lib.hid hl7
                have hids1 := HNum.out.2.2.2.2
                have hids2 := HLen.out
                have hz0 : 0 ≤ z := HZ7.out.1.1
                have hz1 : ¬ z < 0 := by omega
                have hz2 : decide (z < 0) = false := decide_eq_false hz1
                clear hs7 hu7 hj7 hR7 hl7 t5
                go_wp2_with (first
                  | (at_builtin
                     refine wpList_append_own_at _ rfl _ _ _ rfl w.heap.size 3 i0 _ 1 8 Try.underlying28 hi0 hi1 hi2 hi3 rfl (by omega) (.slice (some ⟨g, 0, none⟩) len cap) _ _ rfl HRw.out ⟨_, 0, none⟩ 1 1 [.int .i64 z] rfl rfl (cell_one_new _ _ _) ?c2 ?c3 ?c4 ?c5 ?_
                     case c2 => simp [Value.oneCell']
                     case c3 => unfold maxLen; omega
                     case c4 => omega
                     case c5 => exact HR8.out.below.size
                     intro v9 w9 hown9 hg9 _ hat9
                     have hR9 := HR8.out.app S (v' := v9) (by rw [HLen.out]; exact hown9) hg9 hat9
                     obtain ⟨g9, cap9, hv9, hcl9⟩ := hR9.row.form (by rw [List.length_append]; simp)
                     have hlen9 : (ids ++ [z]).length = len + 1 := by rw [List.length_append, HLen.out]; rfl
                     have hlast := hcl9 len (by omega)
                     rw [show (ids ++ [z])[len]'(by omega) = z by rw [List.getElem_append_right (by have := HLen.out; omega)]; simp] at hlast
                     rw [hlen9] at hv9
                     have HR9 := Lib.hid hR9
                     subst hv9
                     have HLen9 := Lib.hid hlen9
                     clear hcl9 hlen9 hR9 hown9 hg9 hat9)
                  | fail)
                refine (lawLaws10 S N x y z (2 * P) HR9.out.aa HR9.out.canon HX7.out HY7.out HZ7.out (by have := HP1.out; omega) (by have := HL7.out; have := HNum.out; omega)).mono ?_
                rintro e w10 ⟨rfl, ns10, hs10, hu10⟩
                obtain ⟨F10, hR10, hl10⟩ := HR9.out.op hs10
                have HR10 := Lib.hid hR10
                have HW10 : Hid (∀ u ∈ ids ++ [z], LenW ns10 (2 * P) (2 * P) (2 * P) u) := Lib.hid (fun u hu => (HW7.out u hu).upTo HR9.out.canon.fine hu10)
                have HL10 := Lib.hid hl10
                clear hs10 hu10 hR10 hl10 hlast
                go_wp2_with fail
                refine ⟨⟨j + 1, ns10, F10, ids ++ [z], by omega, by go_num, ⟨by have := HLen9.out; omega, by have := HLen9.out; omega⟩, by have := HL10.out; have := HL7.out; have := HNum.out; omega, HR10, Lib.hid (by rw [HG.out.1, HG.out.2.1, HG.out.2.2]; exact HW10.out)⟩, by simp [intOf] <;> omega⟩
              · have E4 : (j + 4) / 5 = q + 1 := by omega
                have E5 : (j + 3) / 5 = q + 1 := by omega
                have E3 : (j + 2) / 5 = q + 1 := by omega
                have G4 : (j + 1 + 4) / 5 = q + 1 := by omega
                have G5 : (j + 1 + 3) / 5 = q + 1 := by omega
                have G3 : (j + 1 + 2) / 5 = q + 1 := by omega
                rw [E4, E5, E3] at HX HY HW
                simp only [hP2, hP] at HX HY HW
                have HG : Hid (2 ^ ((j + 1 + 4) / 5) = (2 * P) ∧ 2 ^ ((j + 1 + 3) / 5) = (2 * P) ∧ 2 ^ ((j + 1 + 2) / 5) = (2 * P)) := Lib.hid (by rw [G4, G5, G3]; simp only [hP2, hP]; exact ⟨trivial, trivial, trivial⟩)
                replace t5 : Int.tmod (j : Int) 5 = 3 := by rw [t5, h5]; rfl
                clear E4 E5 E3 G4 G5 G3 hq hP hP2 h5
                go_wp2_with fail
                refine (stNot N HSq.out x HX.out.1.1 (by have := HNum.out; omega)).mono ?_
                rintro e w7 ⟨z, ns7, rfl, hs7, hu7, hj7⟩
                have HLz : Hid (LenW ns7 (2 * P) (2 * P) (2 * P) z) := Lib.hid (not_lenw hs7.canon (HX.out.upTo HR.out.canon.fine hu7) (by have := HP1.out; omega) (by have := HP1.out; omega) (by have := HP1.out; omega) hj7)
                obtain ⟨F7, hR7, hl7⟩ := HRq.out.op hs7
                have HW7 : Hid (∀ u ∈ ids ++ [z], LenW ns7 (2 * P) (2 * P) (2 * P) u) := Lib.hid (fun u hu => by
                  rw [List.mem_append, List.mem_singleton] at hu
                  rcases hu with hu | rfl
                  · exact ((HW.out u hu).upTo HR.out.canon.fine hu7).mono (by omega) (by omega) (by omega)
                  · exact HLz.out)
                have HX7 := Lib.hid (((HX.out.upTo HR.out.canon.fine hu7).mono (V4 := 2 * P) (V5 := 2 * P) (V3 := 2 * P) (by omega) (by omega) (by omega)).1)
                have HY7 := Lib.hid (((HY.out.upTo HR.out.canon.fine hu7).mono (V4 := 2 * P) (V5 := 2 * P) (V3 := 2 * P) (by omega) (by omega) (by omega)).1)
                have HZ7 := Lib.hid ((HLz.out.mono (V4 := 2 * P) (V5 := 2 * P) (V3 := 2 * P) (by omega) (by omega) (by omega)).1)
                have HR8 := Lib.hid (hR7.alloc S (.cells #[.int .i64 z] 3))
                have HRw : Hid (((w7.alloc (.cells #[.int .i64 z] 3))).ownsRow w.heap.size 3 1 (.slice (some ⟨g, 0, none⟩) len cap) len (idL ids)) := Lib.hid (by have q := HR8.out.row; unfold IdRow at q; rw [HLen.out] at q; exact q)
                have HL7 := Lib.hid hl7
                have hids1 := HNum.out.2.2.2.2
                have hids2 := HLen.out
                have hz0 : 0 ≤ z := HZ7.out.1.1
                have hz1 : ¬ z < 0 := by omega
                have hz2 : decide (z < 0) = false := decide_eq_false hz1
                clear hs7 hu7 hj7 hR7 hl7 t5
                go_wp2_with (first
                  | (at_builtin
                     refine wpList_append_own_at _ rfl _ _ _ rfl w.heap.size 3 i0 _ 1 8 Try.underlying28 hi0 hi1 hi2 hi3 rfl (by omega) (.slice (some ⟨g, 0, none⟩) len cap) _ _ rfl HRw.out ⟨_, 0, none⟩ 1 1 [.int .i64 z] rfl rfl (cell_one_new _ _ _) ?c2 ?c3 ?c4 ?c5 ?_
                     case c2 => simp [Value.oneCell']
                     case c3 => unfold maxLen; omega
                     case c4 => omega
                     case c5 => exact HR8.out.below.size
                     intro v9 w9 hown9 hg9 _ hat9
                     have hR9 := HR8.out.app S (v' := v9) (by rw [HLen.out]; exact hown9) hg9 hat9
                     obtain ⟨g9, cap9, hv9, hcl9⟩ := hR9.row.form (by rw [List.length_append]; simp)
                     have hlen9 : (ids ++ [z]).length = len + 1 := by rw [List.length_append, HLen.out]; rfl
                     have hlast := hcl9 len (by omega)
                     rw [show (ids ++ [z])[len]'(by omega) = z by rw [List.getElem_append_right (by have := HLen.out; omega)]; simp] at hlast
                     rw [hlen9] at hv9
                     have HR9 := Lib.hid hR9
                     subst hv9
                     have HLen9 := Lib.hid hlen9
                     clear hcl9 hlen9 hR9 hown9 hg9 hat9)
                  | fail)
                refine (lawLaws10 S N x y z (2 * P) HR9.out.aa HR9.out.canon HX7.out HY7.out HZ7.out (by have := HP1.out; omega) (by have := HL7.out; have := HNum.out; omega)).mono ?_
                rintro e w10 ⟨rfl, ns10, hs10, hu10⟩
                obtain ⟨F10, hR10, hl10⟩ := HR9.out.op hs10
                have HR10 := Lib.hid hR10
                have HW10 : Hid (∀ u ∈ ids ++ [z], LenW ns10 (2 * P) (2 * P) (2 * P) u) := Lib.hid (fun u hu => (HW7.out u hu).upTo HR9.out.canon.fine hu10)
                have HL10 := Lib.hid hl10
                clear hs10 hu10 hR10 hl10 hlast
                go_wp2_with fail
                refine ⟨⟨j + 1, ns10, F10, ids ++ [z], by omega, by go_num, ⟨by have := HLen9.out; omega, by have := HLen9.out; omega⟩, by have := HL10.out; have := HL7.out; have := HNum.out; omega, HR10, Lib.hid (by rw [HG.out.1, HG.out.2.1, HG.out.2.2]; exact HW10.out)⟩, by simp [intOf] <;> omega⟩
              · have E4 : (j + 4) / 5 = q + 1 := by omega
                have E5 : (j + 3) / 5 = q + 1 := by omega
                have E3 : (j + 2) / 5 = q + 1 := by omega
                have G4 : (j + 1 + 4) / 5 = q + 1 := by omega
                have G5 : (j + 1 + 3) / 5 = q + 1 := by omega
                have G3 : (j + 1 + 2) / 5 = q + 1 := by omega
                rw [E4, E5, E3] at HX HY HW
                simp only [hP2, hP] at HX HY HW
                have HG : Hid (2 ^ ((j + 1 + 4) / 5) = (2 * P) ∧ 2 ^ ((j + 1 + 3) / 5) = (2 * P) ∧ 2 ^ ((j + 1 + 2) / 5) = (2 * P)) := Lib.hid (by rw [G4, G5, G3]; simp only [hP2, hP]; exact ⟨trivial, trivial, trivial⟩)
                replace t5 : Int.tmod (j : Int) 5 = 4 := by rw [t5, h5]; rfl
                clear E4 E5 E3 G4 G5 G3 hq hP hP2 h5
                go_wp2_with fail
                refine (stStar N HSq.out x HX.out.1.1 (by have := HNum.out; omega)).mono ?_
                rintro e w7 ⟨z, ns7, rfl, hs7, hu7, hj7⟩
                have HLz : Hid (LenW ns7 (2 * P) (2 * P) (2 * P) z) := Lib.hid (star_lenw hs7.canon (HX.out.upTo HR.out.canon.fine hu7) (by have := HP1.out; omega) (by have := HP1.out; omega) (by have := HP1.out; omega) hj7)
                obtain ⟨F7, hR7, hl7⟩ := HRq.out.op hs7
                have HW7 : Hid (∀ u ∈ ids ++ [z], LenW ns7 (2 * P) (2 * P) (2 * P) u) := Lib.hid (fun u hu => by
                  rw [List.mem_append, List.mem_singleton] at hu
                  rcases hu with hu | rfl
                  · exact ((HW.out u hu).upTo HR.out.canon.fine hu7).mono (by omega) (by omega) (by omega)
                  · exact HLz.out)
                have HX7 := Lib.hid (((HX.out.upTo HR.out.canon.fine hu7).mono (V4 := 2 * P) (V5 := 2 * P) (V3 := 2 * P) (by omega) (by omega) (by omega)).1)
                have HY7 := Lib.hid (((HY.out.upTo HR.out.canon.fine hu7).mono (V4 := 2 * P) (V5 := 2 * P) (V3 := 2 * P) (by omega) (by omega) (by omega)).1)
                have HZ7 := Lib.hid ((HLz.out.mono (V4 := 2 * P) (V5 := 2 * P) (V3 := 2 * P) (by omega) (by omega) (by omega)).1)
                have HR8 := Lib.hid (hR7.alloc S (.cells #[.int .i64 z] 3))
                have HRw : Hid (((w7.alloc (.cells #[.int .i64 z] 3))).ownsRow w.heap.size 3 1 (.slice (some ⟨g, 0, none⟩) len cap) len (idL ids)) := Lib.hid (by have q := HR8.out.row; unfold IdRow at q; rw [HLen.out] at q; exact q)
                have HL7 := Lib.hid hl7
                have hids1 := HNum.out.2.2.2.2
                have hids2 := HLen.out
                have hz0 : 0 ≤ z := HZ7.out.1.1
                have hz1 : ¬ z < 0 := by omega
                have hz2 : decide (z < 0) = false := decide_eq_false hz1
                clear hs7 hu7 hj7 hR7 hl7 t5
                go_wp2_with (first
                  | (at_builtin
                     refine wpList_append_own_at _ rfl _ _ _ rfl w.heap.size 3 i0 _ 1 8 Try.underlying28 hi0 hi1 hi2 hi3 rfl (by omega) (.slice (some ⟨g, 0, none⟩) len cap) _ _ rfl HRw.out ⟨_, 0, none⟩ 1 1 [.int .i64 z] rfl rfl (cell_one_new _ _ _) ?c2 ?c3 ?c4 ?c5 ?_
                     case c2 => simp [Value.oneCell']
                     case c3 => unfold maxLen; omega
                     case c4 => omega
                     case c5 => exact HR8.out.below.size
                     intro v9 w9 hown9 hg9 _ hat9
                     have hR9 := HR8.out.app S (v' := v9) (by rw [HLen.out]; exact hown9) hg9 hat9
                     obtain ⟨g9, cap9, hv9, hcl9⟩ := hR9.row.form (by rw [List.length_append]; simp)
                     have hlen9 : (ids ++ [z]).length = len + 1 := by rw [List.length_append, HLen.out]; rfl
                     have hlast := hcl9 len (by omega)
                     rw [show (ids ++ [z])[len]'(by omega) = z by rw [List.getElem_append_right (by have := HLen.out; omega)]; simp] at hlast
                     rw [hlen9] at hv9
                     have HR9 := Lib.hid hR9
                     subst hv9
                     have HLen9 := Lib.hid hlen9
                     clear hcl9 hlen9 hR9 hown9 hg9 hat9)
                  | fail)
                refine (lawLaws10 S N x y z (2 * P) HR9.out.aa HR9.out.canon HX7.out HY7.out HZ7.out (by have := HP1.out; omega) (by have := HL7.out; have := HNum.out; omega)).mono ?_
                rintro e w10 ⟨rfl, ns10, hs10, hu10⟩
                obtain ⟨F10, hR10, hl10⟩ := HR9.out.op hs10
                have HR10 := Lib.hid hR10
                have HW10 : Hid (∀ u ∈ ids ++ [z], LenW ns10 (2 * P) (2 * P) (2 * P) u) := Lib.hid (fun u hu => (HW7.out u hu).upTo HR9.out.canon.fine hu10)
                have HL10 := Lib.hid hl10
                clear hs10 hu10 hR10 hl10 hlast
                go_wp2_with fail
                refine ⟨⟨j + 1, ns10, F10, ids ++ [z], by omega, by go_num, ⟨by have := HLen9.out; omega, by have := HLen9.out; omega⟩, by have := HL10.out; have := HL7.out; have := HNum.out; omega, HR10, Lib.hid (by rw [HG.out.1, HG.out.2.1, HG.out.2.2]; exact HW10.out)⟩, by simp [intOf] <;> omega⟩
            · obtain rfl : j = m := by omega
              go_wp2_with fail
              go_ret
              exact ⟨rfl, HR.out.below⟩
end

end Go.Proofs.Ytcghclikkeajfaa
