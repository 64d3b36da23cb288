/- package formula: Formed, Or, And. -/
import Derived.Test.YtehokjaojanieaaFoO
import Derived.Test.YtehokjaojanieaaFoP
import Derived.Test.YtehokjaojanieaaFmSpec
namespace Go.Proofs.Ytehokjaojanieaa
open Go.RowKit
set_option linter.unusedVariables false
set_option linter.unusedSimpArgs false

set_option maxRecDepth 100000 in
set_option maxHeartbeats 8000000 in
theorem fFormed {w : World} {A : Option Addr} {n c : Nat} {f : Fm} (h : FmAt w (.slice A n c) f) (hl : f.flatten.length ≤ 100000) :
    Calls Try.prog 8 #[.slice A n c] w fun e w' => e = .returned (.bool (fmS f)) ∧ Below w.heap.size w w' := by
  have HI := Lib.hid h
  have hm := h.max
  obtain rfl := h.len
  have HL := Lib.hid hl
  clear h hl
  go_enter Try.func8, Try.ntmps8
  go_wp2_with fail
  go_loopw [7] (fun v wr => ∃ (i : Nat), i ≤ f.length ∧ v = .int .i64 i ∧ w = wr ∧ Hid (okTo f i)) (fun v _ => f.length - (intOf v).toNat)
  case atStart => exact ⟨0, Nat.zero_le _, rfl, rfl, Lib.hid (fun j hj => absurd hj (Nat.not_lt_zero _))⟩
  case round =>
    obtain ⟨i, hi, rfl, rfl, HN⟩ := hrel
    by_cases hlt : i < f.length
    · have h1 : (0 : Int) ≤ (i : Int) := by omega
      have h2 : (i : Int) < (f.length : Int) := by omega
      obtain ⟨b, off, A2, c2, rfl, hbl, q0, hp⟩ := HI.out.at i hlt
      have HP := Lib.hid hp
      clear hp
      obtain ⟨u, hu⟩ : ∃ u, upS (-1) (paAt f i) = u := ⟨_, rfl⟩
      have HU := Lib.hid hu
      have hR := fRises (paAt f i) A2 _ c2 w HP.out
      rw [hu] at hR
      have HR := Lib.hid hR
      clear hR hu
      cases u
      · go_wp2_with fail
        refine HR.out.mono ?_
        rintro e w3 ⟨rfl, rfl⟩
        go_wp2_with fail
        go_ret
        refine ⟨?_, Below.refl _ _⟩
        rw [not_fm hlt (fun h => by rw [HU.out] at h; exact absurd h.1 (by simp))]; rfl
      · by_cases h0 : i = 0
        · subst h0
          have q00 : w.cell? ⟨b, off, none⟩ = some (.slice A2 (paAt f 0).length c2) := q0
          clear q0
          go_wp2_with fail
          refine HR.out.mono ?_
          rintro e w3 ⟨rfl, rfl⟩
          go_wp2_with fail
          refine ⟨⟨1, by omega, by go_num, by first | rfl | trivial, Lib.hid (fun j hj => ?_)⟩, by simp [intOf]; omega⟩
          obtain rfl : j = 0 := by omega
          exact ⟨HU.out, .inl rfl⟩
        · obtain ⟨k, rfl⟩ : ∃ k, i = k + 1 := ⟨i - 1, by omega⟩
          obtain ⟨b', off', A3, c3, hA3, _, q3, hp3⟩ := HI.out.at k (by omega)
          injection hA3 with hA3
          injection hA3 with e1 e2
          subst e1 e2
          have hwp : IntKind.i64.wrap (k : Int) = (k : Int) := by rw [IntKind.wrap_i64]; omega
          have z1 : (0 : Int) < (k : Int) + 1 := by omega
          have z2 : (k : Int) + 1 > 0 := by omega
          have z3 : (k : Int) < (f.length : Int) := by omega
          obtain ⟨r, hr⟩ : ∃ r, ordS (paAt f k) (paAt f (k + 1)) = r := ⟨_, rfl⟩
          have hO := fOrd (paAt f k) (paAt f (k + 1)) A3 A2 _ c3 _ c2 w hp3 HP.out
          rw [hr] at hO
          have HO := Lib.hid hO
          have HRr := Lib.hid hr
          clear hO hr hp3
          by_cases hrr : r ≥ 0
          · have hr0 : (0 : Int) ≤ r := hrr
            go_wp2_with fail
            refine HR.out.mono ?_
            rintro e w3 ⟨rfl, rfl⟩
            go_wp2_with fail
            refine HO.out.mono ?_
            rintro e w3 ⟨rfl, rfl⟩
            go_wp2_with fail
            go_ret
            refine ⟨?_, Below.refl _ _⟩
            rw [not_fm hlt (fun h => by
              rcases h.2 with h | h
              · omega
              · rw [Nat.add_sub_cancel, ← ord_lt, HRr.out] at h; omega)]; rfl
          · have hr0 : ¬ (0 : Int) ≤ r := hrr
            go_wp2_with fail
            refine HR.out.mono ?_
            rintro e w3 ⟨rfl, rfl⟩
            go_wp2_with fail
            refine HO.out.mono ?_
            rintro e w3 ⟨rfl, rfl⟩
            go_wp2_with fail
            refine ⟨⟨k + 1 + 1, by omega, by go_num, by first | rfl | trivial, Lib.hid (fun j hj => ?_)⟩, by simp [intOf]; omega⟩
            by_cases e : j = k + 1
            · subst e
              exact ⟨HU.out, .inr (by rw [Nat.add_sub_cancel, ← ord_lt, HRr.out]; omega)⟩
            · exact HN.out j (by omega)
    · obtain rfl : i = f.length := by omega
      obtain ⟨hs, hu⟩ := ok_all HN.out
      have hcnt := fm_count hs
      have HS := Lib.hid hs
      have HU := Lib.hid hu
      have hfl : f.length ≤ 100001 := by have := HL.out; omega
      clear hs hu hcnt
      go_wp2_with fail
      refine (fPartsOf f A _ c w HI.out (by omega) HU.out).mono ?_
      rintro e w1 ⟨v1, ps, rfl, p1, p2, p3, p4⟩
      have hpl : ps.length = f.length := by rw [← p3, List.length_map]
      have hLe := fLeast ps f.length v1 w.heap.size w1 p1 (fun x hx => (p2 x hx).forget (fun b _ e => (World.ownsRow.lt p1 b e).1)) (by omega) (fun x hx => by
        have := part_le (f := f) (p := x.l) (by rw [← p3]; exact List.mem_map.2 ⟨x, hx, rfl⟩)
        have := HL.out; omega) hm (least_most p3 HS.out)
      have HLe := Lib.hid hLe
      have HP3 := Lib.hid p3
      have HP4 := Lib.hid p4
      clear hLe p1 p2 p3 p4 hpl
      go_wp2_with fail
      refine HLe.out.mono ?_
      rintro e w2 ⟨v2, r, rfl, l1, ⟨l2, _⟩, l4, l5⟩
      have HB : Hid (Below w.heap.size w w2) := Lib.hid (below_gr HP4.out HP4.out.size l5 (fun k e => by rw [← l2] at e; exact (World.ownsRow.lt l1 k e).1))
      have hfm := Lib.hid (least_fm HP3.out HS.out l4)
      obtain ⟨A2, c2, rfl⟩ := own_slice l1
      clear l1 l2 l4 l5
      by_cases hrl : r.length = f.length
      · have e1 : ((r.length : Int) == (f.length : Int)) = true := by simp [hrl]
        have HE : Hid (fmS f = true) := Lib.hid (by rw [hfm.out, decide_eq_true hrl])
        clear hrl
        go_wp2_with fail
        go_ret
        exact ⟨by rw [HE.out]; rfl, HB.out⟩
      · have e1 : ((r.length : Int) == (f.length : Int)) = false := by simp; omega
        have HE : Hid (fmS f = false) := Lib.hid (by rw [hfm.out, decide_eq_false hrl])
        clear hrl
        go_wp2_with fail
        go_ret
        exact ⟨by rw [HE.out]; rfl, HB.out⟩

end Go.Proofs.Ytehokjaojanieaa
