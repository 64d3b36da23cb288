/- bolterlaw09.reversed: two lists of bytes, each in the other order, in new memory. -/
import Derived.Test.YtoicbahkoejhjaaProg
import Derived.Test.YtoicbahkoejhjaaWords
import Derived.Test.YtoicbahkoejhjaaOwn
import Derived.Test.YtoicbahkoejhjaaSpansAt
namespace Go.Proofs.Ytoicbahkoejhjaa
open Go.RowKit
set_option linter.unusedVariables false

theorem info_u8r : (Try.prog.info? 5).map (fun i => (i.zero, i.size, i.bytes)) = some (some (.int .u8 0), 1, 1) := by kernel_rfl
theorem IntRow.bytesR {w : World} {base : Nat} {e : TypeId} {v : Value} {l : List Nat} (h : IntRow w base e .u8 v l) (hl : ∀ (k : Nat) (h : k < l.length), l[k] < 256) : ∃ A cap, v = .slice A l.length cap ∧ (∀ b o, A = some ⟨b, o, none⟩ → base ≤ b) ∧ IsBytes w A l.length l := by
  obtain ⟨A, cap, rfl⟩ := h.len
  refine ⟨A, cap, rfl, fun b o e => h.low b (by rw [e]; rfl), rfl, by have := h.max; unfold maxLen at this; omega, hl, fun hn => ?_⟩
  obtain ⟨g, cap', hv, _, hg, _⟩ := h.form hn
  injection hv with e1 _ _
  subst e1
  exact ⟨g, 0, rfl, hg, fun k hk => by rw [Nat.zero_add]; exact h.at k hk⟩
theorem rev_take (l : List Nat) (n i x : Nat) (hn : n = l.length) (h : i < n) (hx : (l[n - 1 - i]?).getD 0 = x) : l.reverse.take (i + 1) = l.reverse.take i ++ [x] := by
  subst hn
  rw [List.take_add_one, List.getElem?_reverse h, List.getElem?_eq_getElem (by omega)] 
  rw [List.getElem?_eq_getElem (by omega)] at hx
  simp only [Option.getD_some] at hx
  rw [hx]; rfl
theorem rev_take_length (l : List Nat) (n i : Nat) (hn : n = l.length) (h : i ≤ n) : (l.reverse.take i).length = i := by rw [List.length_take, List.length_reverse]; omega
theorem rev_lt {l : List Nat} (h : ∀ (k : Nat) (h : k < l.length), l[k] < 256) (k : Nat) (hk : k < l.reverse.length) : l.reverse[k] < 256 := by rw [List.getElem_reverse]; exact h _ _

set_option maxRecDepth 100000 in
set_option maxHeartbeats 4000000 in
theorem lawRevBoth (A B : Option Addr) (n m c d : Nat) (l bs : List Nat) (hn : n ≤ 1000) (hm : m ≤ 1000) (w : World) (h : IsBytes w A n l) (hb : IsBytes w B m bs) :
    Calls Try.prog 17 #[.slice A n c, .slice B m d] w fun e w' => ∃ A' c' B' d', e = .returned (.tuple #[.slice A' n c', .slice B' m d']) ∧ IsBytes w' A' n l.reverse ∧ IsBytes w' B' m bs.reverse ∧ (∀ b o, A' = some ⟨b, o, none⟩ → w.heap.size ≤ b) ∧ (∀ b o, B' = some ⟨b, o, none⟩ → w.heap.size ≤ b) ∧ Below w.heap.size w w' := by
  have HI := Lib.hid h
  have HJ := Lib.hid hb
  have HL := Lib.hid h.1
  have HM := Lib.hid hb.1
  clear h hb
  obtain ⟨i0, hi0, hz0, hz1, hz2⟩ := info_parts info_u8r
  go_enter Try.func17, Try.ntmps17
  go_wp2_with fail
  go_loopw [6, 12] (fun v x wr => ∃ i : Nat, i ≤ n ∧ x = .int .i64 i ∧ Hid (IntRow wr w.heap.size 5 .u8 v (l.reverse.take i)) ∧ Hid (Below w.heap.size w wr)) (fun _ x _ => n - (intOf x).toNat)
  case atStart => exact ⟨0, Nat.zero_le _, rfl, Lib.hid (IntRow.nil _ _ _ _), Lib.hid (Below.refl _ _)⟩
  case round =>
    obtain ⟨i, hi, rfl, HR, HB⟩ := hrel
    by_cases hlt : i < n
    · obtain ⟨k, hk⟩ : ∃ k : Nat, k = n - 1 - i := ⟨_, rfl⟩
      have hkn : k < n := by omega
      have hkl : k < l.length := by have := HL.out; omega
      obtain ⟨b, off, rfl, hbb, hc⟩ := (HI.out.below HB.out).2.2.2 (by omega)
      have q1 := hc k hkl
      have hx8 := HI.out.2.2.1 k hkl
      obtain ⟨x, hx⟩ : ∃ x : Nat, l[k] = x := ⟨_, rfl⟩
      rw [hx] at q1 hx8
      have HX : Hid ((l[n - 1 - i]?).getD 0 = x) := by rw [← hk, List.getElem?_eq_getElem hkl, ← hx]; exact rfl
      have HT := Lib.hid (rev_take l n i x HL.out hlt HX.out)
      have HTl := Lib.hid (rev_take_length l n i HL.out (by omega))
      have hBs := HB.out.size
      clear hx hc hbb
      have hmi : (n : Int) - 1 - (i : Int) = (k : Int) := by omega
      have hw1 : IntKind.i64.wrap ((n : Int) - 1) = (n : Int) - 1 := by rw [IntKind.wrap_i64]; omega
      have hw2 : IntKind.i64.wrap ((n : Int) - 1 - (i : Int)) = (k : Int) := by rw [hmi, IntKind.wrap_i64]; omega
      have hk0 : (0 : Int) ≤ (k : Int) := by omega
      have hkn' : (k : Int) < (n : Int) := by omega
      have hi0' : (0 : Int) ≤ (i : Int) := by omega
      have hin : (i : Int) < (n : Int) := by omega
      clear hk hmi
      go_wp2_with (first
        | (at_builtin
           refine wpList_append_own _ rfl _ _ _ rfl w.heap.size 5 i0 _ 1 1 Try.underlying39 hi0 hz0 hz1 hz2 rfl (by omega) u6 _ _ rfl (HR.out.alloc _) ⟨wr.heap.size, 0, none⟩ 1 1 [.int .u8 (x : Nat)] rfl rfl ?c1 ?c2 ?c3 ?c4 ?c5 ?_
           case c1 => exact (cell_one_new _ _ _)
           case c2 => simp [Value.oneCell']
           case c3 => rw [HTl.out]; unfold maxLen; omega
           case c4 => rw [HTl.out]; omega
           case c5 => simp; omega
           intro v' w4 hown4 hg4 _)
        | fail)
      refine ⟨⟨i + 1, by omega, by go_num, Lib.hid ?_, Lib.hid ((HB.out.alloc hBs _).grown hg4 (by simp; omega) (fun g hg => HR.out.low g hg))⟩, by simp [intOf]; omega⟩
      rw [HT.out]; exact IntRow.push hown4
    · obtain rfl : n = i := by omega
      have HV : Hid (IntRow wr w.heap.size 5 .u8 u6 l.reverse) := Lib.hid (by have := HR.out; rw [List.take_of_length_le (by rw [List.length_reverse]; have := HL.out; omega)] at this; exact this)
      obtain ⟨A1, c1, hu6, hlow1, HA1⟩ := HV.out.bytesR (rev_lt HI.out.2.2.1)
      have HB1 := HB
      have HA2 := Lib.hid HA1
      have HL1 := Lib.hid hlow1
      have hlr : l.reverse.length = n := by rw [List.length_reverse]; exact HL.out.symm
      rw [hlr] at hu6 HA2
      subst hu6
      clear HA1 HR HB hlr hlow1
      obtain ⟨wo, rfl⟩ : ∃ wo : World, wo = wr := ⟨_, rfl⟩
      go_wp2_with fail
      go_loopw [8, 29] (fun v x wr => ∃ i : Nat, i ≤ m ∧ x = .int .i64 i ∧ Hid (IntRow wr wo.heap.size 5 .u8 v (bs.reverse.take i)) ∧ Hid (Below wo.heap.size wo wr)) (fun _ x _ => m - (intOf x).toNat)
      case atStart => exact ⟨0, Nat.zero_le _, rfl, Lib.hid (IntRow.nil _ _ _ _), Lib.hid (Below.refl _ _)⟩
      case round =>
        have HJ2 := Lib.hid (HJ.out.below HB1.out)
        clear hi
        obtain ⟨i, hi, rfl, HR, HB⟩ := hrel
        by_cases hlt : i < m
        · obtain ⟨k, hk⟩ : ∃ k : Nat, k = m - 1 - i := ⟨_, rfl⟩
          have hkn : k < m := by omega
          have hkl : k < bs.length := by have := HM.out; omega
          obtain ⟨b, off, rfl, hbb, hc⟩ := (HJ2.out.below HB.out).2.2.2 (by omega)
          have q1 := hc k hkl
          have hx8 := HJ2.out.2.2.1 k hkl
          obtain ⟨x, hx⟩ : ∃ x : Nat, bs[k] = x := ⟨_, rfl⟩
          rw [hx] at q1 hx8
          have HX : Hid ((bs[m - 1 - i]?).getD 0 = x) := by rw [← hk, List.getElem?_eq_getElem hkl, ← hx]; exact rfl
          have HT := Lib.hid (rev_take bs m i x HM.out hlt HX.out)
          have HTl := Lib.hid (rev_take_length bs m i HM.out (by omega))
          have hBs := HB.out.size
          clear hx hc hbb
          have hmi : (m : Int) - 1 - (i : Int) = (k : Int) := by omega
          have hw1 : IntKind.i64.wrap ((m : Int) - 1) = (m : Int) - 1 := by rw [IntKind.wrap_i64]; omega
          have hw2 : IntKind.i64.wrap ((m : Int) - 1 - (i : Int)) = (k : Int) := by rw [hmi, IntKind.wrap_i64]; omega
          have hk0 : (0 : Int) ≤ (k : Int) := by omega
          have hkn' : (k : Int) < (m : Int) := by omega
          have hi0' : (0 : Int) ≤ (i : Int) := by omega
          have hin : (i : Int) < (m : Int) := by omega
          clear hk hmi
          go_wp2_with (first
            | (at_builtin
               refine wpList_append_own _ rfl _ _ _ rfl wo.heap.size 5 i0 _ 1 1 Try.underlying39 hi0 hz0 hz1 hz2 rfl (by omega) u8 _ _ rfl (HR.out.alloc _) ⟨wr.heap.size, 0, none⟩ 1 1 [.int .u8 (x : Nat)] rfl rfl ?c1 ?c2 ?c3 ?c4 ?c5 ?_
               case c1 => exact (cell_one_new _ _ _)
               case c2 => simp [Value.oneCell']
               case c3 => rw [HTl.out]; unfold maxLen; omega
               case c4 => rw [HTl.out]; omega
               case c5 => simp; omega
               intro v' w4 hown4 hg4 _)
            | fail)
          refine ⟨⟨i + 1, by omega, by go_num, Lib.hid ?_, Lib.hid ((HB.out.alloc hBs _).grown hg4 (by simp; omega) (fun g hg => HR.out.low g hg))⟩, by simp [intOf]; omega⟩
          rw [HT.out]; exact IntRow.push hown4
        · obtain rfl : m = i := by omega
          have HV2 : Hid (IntRow wr wo.heap.size 5 .u8 u8 bs.reverse) := Lib.hid (by have := HR.out; rw [List.take_of_length_le (by rw [List.length_reverse]; have := HM.out; omega)] at this; exact this)
          obtain ⟨B1, d1, hu8, hlow2, HB2⟩ := HV2.out.bytesR (rev_lt HJ.out.2.2.1)
          have hlr : bs.reverse.length = m := by rw [List.length_reverse]; exact HM.out.symm
          rw [hlr] at hu8 HB2
          subst hu8
          have HB3 := Lib.hid HB2
          clear hlr HB2 HR
          go_wp2_with fail
          go_ret2
          exact ⟨A1, c1, B1, d1, rfl, HA2.out.below HB.out, HB3.out, HL1.out, fun b o e => Nat.le_trans HB1.out.size (hlow2 b o e), HB1.out.trans (HB.out.mono HB1.out.size)⟩

end Go.Proofs.Ytoicbahkoejhjaa
