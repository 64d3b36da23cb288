/- What package print writes of a pattern: its text. -/
import Derived.Test.YtibmcdgnponpmaaDoorPrintC
import Derived.Deep.RegionWith
namespace Go.Proofs.YtibmcdgnponpmaaDoor
open Go.RowKit
set_option linter.unusedSimpArgs false
set_option linter.unusedVariables false

set_option maxRecDepth 100000 in
set_option maxHeartbeats 4000000 in
theorem pWrite_8 (b k : Nat) (hgb : 0 < b) (ih : Writes b k) (t : Tr) (x : ByteArray) (w : World) (h : Pre b w (k + 1) t) (hb : Bd w b x) (hs : x.size + (textS (k + 1) t).size + (4000 + 20 * (k + 1)) ≤ 1000000000) (hkd : t.kind = 8) :
    Calls Tryd.prog 12 #[.pointer (some ⟨b, 0, none⟩), .agg t.cs.toArray] w (Wrote b x (textS (k + 1) t) w) := by
  obtain ⟨w0, hw0⟩ : ∃ w0, w0 = w.alloc (.cells t.cs.toArray 27) := ⟨_, rfl⟩
  have hb0 : Below w.heap.size w w0 := by rw [hw0]; exact (Below.refl _ _).alloc (Nat.le_refl _) _
  have hk0 := KeepB.of hb0 hb.lt
  have HBd := Lib.hid (hb.next hb0)
  have HP0 := Lib.hid (h.keepB hk0 hb hgb)
  have HK0 := Lib.hid hk0
  have hbox : At w0 w.heap.size 27 t.cs.toArray := by rw [hw0]; exact At.new _ _ _
  have HBox := Lib.hid hbox
  have HOff : Hid (w.heap.size ≠ b ∧ some w.heap.size ≠ bufOf w0 b) := Lib.hid (by
    have h1 := hb.off (Nat.le_refl w.heap.size)
    have e : bufOf w0 b = bufOf w b := bufOf_same (hb0.block b hb.lt)
    rw [e]; exact h1)
  have HI := Lib.hid ih
  have HW0 := Lib.hid hw0
  obtain ⟨c0, c5, c6, c7, c8⟩ := At.tr_cell hbox
  obtain ⟨c1, c2, c3, c4⟩ := At.tr_set hbox
  rw [hkd] at c0
  rw [hw0] at c0 c1 c2 c3 c4 c5 c6 c7 c8
  have HK := Lib.hid hkd
  have hl : t.parts.length = 1 := h.wrt.2.1 (by omega)
  have hl0 : 0 < t.parts.length := by omega
  have hn := h.lies.2.1.1
  obtain ⟨g, off, ha, hg, hr⟩ := h.lies.2.2.1 (by rw [hn]; omega)
  have HRg := Lib.hid (range_below (hr 0 hl0) hg (Nat.le_refl _) hb0)
  rw [Nat.zero_mul, Nat.add_zero] at HRg
  obtain ⟨p, hp⟩ : ∃ p, t.parts[0] = p := ⟨_, rfl⟩
  have hpart : Pre b w k p := ⟨by rw [← hp]; exact h.lies.2.2.2 0 hl0, by rw [← hp]; exact h.off.part (List.getElem_mem hl0), by rw [← hp]; exact h.wrt.2.2.2 _ (List.getElem_mem hl0), h.tab⟩
  have HPt := Lib.hid (hpart.keepB hk0 hb hgb)
  rw [hp] at HRg
  rw [hn, hl, ha] at c5
  have hmap : t.parts.map (textS k) = [textS k p] := by
    obtain ⟨a, e⟩ : ∃ a, t.parts = [a] := List.length_eq_one_iff.1 hl
    simp only [e, List.getElem_cons_zero] at hp
    rw [e, hp]; rfl
  have HV : Hid (textS (k + 1) t = lookT 8 t.neg ++ textS k p ++ ⟨#[41]⟩) := Lib.hid (by rw [text_look (by omega) hl0, hkd, hp])
  have hlk : (lookT 8 t.neg).size ≤ 4 := by cases t.neg <;> decide
  have HSz : Hid (x.size + (lookT 8 t.neg).size + (textS k p).size + (4010 + 20 * k) ≤ 1000000000) := Lib.hid (by
    rw [HV.out] at hs
    simp only [size_app] at hs
    omega)
  have hcl : ∀ W, Calls Tryd.prog 28 #[.int .i64 8, .bool t.neg] W fun e w' => e = .returned (.string (lookT 8 t.neg)) ∧ w' = W := fun W => pOpening 8 (by decide) t.neg W
  have hcw : ∀ W, KeepB b w0 W → Bd W b x → Calls Tryd.prog 26 #[.pointer (some ⟨b, 0, none⟩), .string (lookT 8 t.neg), .agg #[.int .i64 p.kind, .int .u64 p.set.w0, .int .u64 p.set.w1, .int .u64 p.set.w2, .int .u64 p.set.w3, .slice p.addr p.n p.cap, .int .i64 p.lo, .int .i64 p.hi, .bool p.neg]] W (Wrote b x (lookT 8 t.neg ++ textS k p ++ ⟨#[41]⟩) W) := fun W hkw hbw =>
    pWithin b k hgb HI.out (lookT 8 t.neg) p x W (HPt.out.keepB hkw HBd.out hgb) hbw (by have := HSz.out; omega)
  have HCW := Lib.hid hcw
  have HKd : Hid (KeepB b w ((w.alloc (.cells t.cs.toArray 27)).drewN 1)) := Lib.hid (by rw [← hw0]; exact HK0.out.drewN 1)
  have HCL := Lib.hid hcl
  have r0 := HRg.out 0 (.int .i64 p.kind) rfl
  have r1 := HRg.out 1 (.int .u64 p.set.w0) rfl
  have r2 := HRg.out 2 (.int .u64 p.set.w1) rfl
  have r3 := HRg.out 3 (.int .u64 p.set.w2) rfl
  have r4 := HRg.out 4 (.int .u64 p.set.w3) rfl
  have r5 := HRg.out 5 (.slice p.addr p.n p.cap) rfl
  have r6 := HRg.out 6 (.int .i64 p.lo) rfl
  have r7 := HRg.out 7 (.int .i64 p.hi) rfl
  have r8 := HRg.out 8 (.bool p.neg) rfl
  rw [Nat.add_zero] at r0
  rw [hw0] at r0 r1 r2 r3 r4 r5 r6 r7 r8
  clear h hb hb0 hw0 hk0 ih hkd hbox hs hl hl0 hn ha hg hr hp hpart hmap hlk hcl hcw c1 c2 c3 c4 c6 c7 HRg
  go_enter Tryd.func12, Tryd.ntmps12
  go_wp2_with fail
  go_region_with (first
    | (go_at_call 28; (with_reducible refine (HCL.out _).mono ?_); rintro e w9 ⟨rfl, rfl⟩)
    | (go_at_call 26; (with_reducible refine (HCW.out _ ?_ ?_).mono ?_); exact (by rw [HW0.out]; exact (KeepB.refl b _).drewN 1); exact (by have := HBd.out; rw [HW0.out] at this; exact this.drewN 1); rintro e w1 ⟨rfl, h1, hk1⟩))
  all_goals go_wp2_with fail
  all_goals go_end0
  all_goals exact ⟨rfl, by rw [HV.out]; exact h1, HKd.out.trans hk1⟩

end Go.Proofs.YtibmcdgnponpmaaDoor
