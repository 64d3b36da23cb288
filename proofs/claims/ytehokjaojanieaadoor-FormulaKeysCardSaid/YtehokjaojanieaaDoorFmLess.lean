/- bolterref09.less, Same. -/
import Derived.Test.YtehokjaojanieaaDoorFm
namespace Go.Proofs.YtehokjaojanieaaDoor
open Go.RowKit
set_option linter.unusedVariables false
set_option linter.unusedSimpArgs false

def lexS : List Int → List Int → Bool
  | x :: a, y :: b => if x = y then lexS a b else decide (x < y)
  | _, _ => false
def lessS (a b : List Int) : Bool := if a.length = b.length then lexS a b else decide (a.length < b.length)
theorem drop_at (l : List Int) (i : Nat) (h : i < l.length) : l.drop i = inAt l i :: l.drop (i + 1) := by rw [inAt_lt h]; exact List.drop_eq_getElem_cons h
theorem lex_step {a b : List Int} {i : Nat} (ha : i < a.length) (hb : i < b.length) : lexS (a.drop i) (b.drop i) = if inAt a i = inAt b i then lexS (a.drop (i + 1)) (b.drop (i + 1)) else decide (inAt a i < inAt b i) := by
  rw [drop_at a i ha, drop_at b i hb]; rfl

set_option maxRecDepth 100000 in
set_option maxHeartbeats 4000000 in
theorem refLess9 (a b : List Int) (A B : Option Addr) (n c m d : Nat) (w : World) (h : IntsAt w (.slice A n c) a) (h' : IntsAt w (.slice B m d) b) :
    Calls Tryd.prog 18 #[.slice A n c, .slice B m d] w fun e w' => e = .returned (.bool (lessS a b)) ∧ ∃ q, w' = w.drewN q := by
  have HI := Lib.hid h
  have HJ := Lib.hid h'
  have hm := h.max
  have hm' := h'.max
  obtain rfl := h.len
  obtain rfl := h'.len
  clear h h'
  by_cases hne : a.length = b.length
  · have hne1 : ((a.length : Int) != (b.length : Int)) = false := by simp [hne]
    have hne2 : (a.length != b.length) = false := by simp [hne]
    have HNe := Lib.hid hne
    clear hne
    go_enter Tryd.func18, Tryd.ntmps18
    go_wp2_with fail
    go_loopw [18] (fun v wr => ∃ i q : Nat, i ≤ a.length ∧ v = .int .i64 i ∧ wr = w.drewN q ∧ Hid (lexS a b = lexS (a.drop i) (b.drop i))) (fun v _ => a.length - (intOf v).toNat)
    case atStart => exact ⟨0, 0, Nat.zero_le _, rfl, rfl, Lib.hid rfl⟩
    case round =>
      obtain ⟨i, q, hi, rfl, rfl, HE⟩ := hrel
      by_cases hlt : i < a.length
      · have hlt' : i < b.length := by have := HNe.out; omega
        have h1 : (0 : Int) ≤ (i : Int) := by omega
        have h2 : (i : Int) < (a.length : Int) := by omega
        have h3 : (i : Int) < (b.length : Int) := by omega
        obtain ⟨b1, o1, rfl, _, q1⟩ := HI.out.at i hlt
        obtain ⟨b2, o2, rfl, _, q2⟩ := HJ.out.at i hlt'
        have hst := lex_step hlt hlt'
        obtain ⟨x, hx⟩ : ∃ x, inAt a i = x := ⟨_, rfl⟩
        obtain ⟨y, hy⟩ : ∃ y, inAt b i = y := ⟨_, rfl⟩
        rw [hx] at q1 hst
        rw [hy] at q2 hst
        clear hx hy
        by_cases he : x = y
        · have hb : (x != y) = false := by simp [he]
          rw [if_pos he] at hst
          have HS := Lib.hid hst
          clear hst he
          go_wp2_with fail
          go_quiet (fail)
          go_wp2_with fail
          go_roundw
          case rel => exact ⟨i + 1, q + nq, by omega, by go_num, rfl, Lib.hid (HE.out.trans HS.out)⟩
          case measure => simp [intOf]; omega
        · have hb : (x != y) = true := by simp [he]
          rw [if_neg he] at hst
          have HS := Lib.hid hst
          clear hst he
          go_wp2_with fail
          go_quiet (fail)
          go_wp2_with fail
          go_quiet (fail)
          go_wp2_with fail
          go_ret
          refine ⟨?_, by (try simp only [World.drewN_drewN]); exact ⟨_, rfl⟩⟩
          unfold lessS
          rw [if_pos HNe.out, HE.out, HS.out]
          rfl
      · obtain rfl : i = a.length := by omega
        go_wp2_with fail
        go_ret
        refine ⟨?_, by (try simp only [World.drewN_drewN]); exact ⟨_, rfl⟩⟩
        have hd : a.drop a.length = [] := by simp
        unfold lessS
        rw [if_pos HNe.out, HE.out, hd]
        rfl
  · have hne1 : ((a.length : Int) != (b.length : Int)) = true := by simp; omega
    have hne2 : (a.length != b.length) = true := by simp [hne]
    have HNe := Lib.hid hne
    clear hne
    go_enter Tryd.func18, Tryd.ntmps18
    go_wp2_with fail
    go_ret
    refine ⟨?_, ⟨0, rfl⟩⟩
    unfold lessS
    rw [if_neg HNe.out]
    have e : decide ((a.length : Int) < (b.length : Int)) = decide (a.length < b.length) := by
      by_cases h : a.length < b.length
      · rw [decide_eq_true h, decide_eq_true (by omega)]
      · rw [decide_eq_false h, decide_eq_false (by omega)]
    rw [← e]
    rfl

theorem take_step {α : Type} (l : List α) (i : Nat) (h : i < l.length) : l.take (i + 1) = l.take i ++ [l[i]] := by
  rw [List.take_add_one, List.getElem?_eq_getElem h]; rfl
theorem ne_at {f g : Fm} {i : Nat} (h : paAt f i ≠ paAt g i) : f ≠ g := fun e => h (by rw [e])
theorem ne_in {f g : List Int} {i : Nat} (h : inAt f i ≠ inAt g i) : f ≠ g := fun e => h (by rw [e])

set_option maxRecDepth 100000 in
set_option maxHeartbeats 4000000 in
theorem refSame9 (f g : Fm) (A B : Option Addr) (n c m d : Nat) (w : World) (h : FmAt w (.slice A n c) f) (h' : FmAt w (.slice B m d) g) :
    Calls Tryd.prog 6 #[.slice A n c, .slice B m d] w fun e w' => e = .returned (.bool (decide (f = g))) ∧ ∃ q, w' = w.drewN q := by
  have HI := Lib.hid h
  have HJ := Lib.hid h'
  have hm := h.max
  have hm' := h'.max
  obtain rfl := h.len
  obtain rfl := h'.len
  clear h h'
  by_cases hne : f.length = g.length
  · have hne1 : ((f.length : Int) != (g.length : Int)) = false := by simp [hne]
    have hne2 : (f.length != g.length) = false := by simp [hne]
    have HNe := Lib.hid hne
    clear hne
    go_enter Tryd.func6, Tryd.ntmps6
    go_wp2_with fail
    go_loopw [14] (fun v wr => ∃ i q : Nat, i ≤ f.length ∧ v = .int .i64 i ∧ wr = w.drewN q ∧ Hid (f.take i = g.take i)) (fun v _ => f.length - (intOf v).toNat)
    case atStart => exact ⟨0, 0, Nat.zero_le _, rfl, rfl, Lib.hid (by simp)⟩
    case round =>
      obtain ⟨i, q, hi, rfl, rfl, HE⟩ := hrel
      by_cases hlt : i < f.length
      · have hlt' : i < g.length := by have := HNe.out; omega
        have h1 : (0 : Int) ≤ (i : Int) := by omega
        have h2 : (i : Int) < (f.length : Int) := by omega
        have h3 : (i : Int) < (g.length : Int) := by omega
        obtain ⟨b1, o1, A1, c1, rfl, _, q1, hp1⟩ := HI.out.at i hlt
        obtain ⟨b2, o2, A2, c2, rfl, _, q2, hp2⟩ := HJ.out.at i hlt'
        have hs1 := take_step f i hlt
        have hs2 := take_step g i hlt'
        rw [← paAt_lt hlt] at hs1
        rw [← paAt_lt hlt'] at hs2
        have hnat : paAt f i ≠ paAt g i → f ≠ g := ne_at
        obtain ⟨x, hx⟩ : ∃ x, paAt f i = x := ⟨_, rfl⟩
        obtain ⟨y, hy⟩ : ∃ y, paAt g i = y := ⟨_, rfl⟩
        rw [hx] at q1 hp1 hs1 hnat
        rw [hy] at q2 hp2 hs2 hnat
        have HP1 := Lib.hid hp1
        have HP2 := Lib.hid hp2
        have hx63 := hp1.max
        have hy63 := hp2.max
        have HS1 := Lib.hid hs1
        have HS2 := Lib.hid hs2
        have HNa := Lib.hid hnat
        clear hx hy hp1 hp2 hs1 hs2 hnat
        by_cases hl : x.length = y.length
        · have hl1 : ((x.length : Int) != (y.length : Int)) = false := by simp [hl]
          have hl2 : (x.length != y.length) = false := by simp [hl]
          have HL := Lib.hid hl
          clear hl
          go_wp2_with fail
          go_quiet (fail)
          go_wp2_with fail
          go_loopw [33] (fun v wr => ∃ k q : Nat, k ≤ x.length ∧ v = .int .i64 k ∧ wr = w.drewN q ∧ Hid (x.take k = y.take k)) (fun v _ => x.length - (intOf v).toNat)
          case atStart => exact ⟨0, _, Nat.zero_le _, rfl, rfl, Lib.hid (by simp)⟩
          case round =>
            obtain ⟨k, q', hk, rfl, rfl, HE2⟩ := hrel
            by_cases hkl : k < x.length
            · have hkl' : k < y.length := by have := HL.out; omega
              have h4 : (0 : Int) ≤ (k : Int) := by omega
              have h5 : (k : Int) < (x.length : Int) := by omega
              have h6 : (k : Int) < (y.length : Int) := by omega
              obtain ⟨b3, o3, rfl, _, q3⟩ := HP1.out.at k hkl
              obtain ⟨b4, o4, rfl, _, q4⟩ := HP2.out.at k hkl'
              have ht1 := take_step x k hkl
              have ht2 := take_step y k hkl'
              rw [← inAt_lt hkl] at ht1
              rw [← inAt_lt hkl'] at ht2
              have hnin : inAt x k ≠ inAt y k → x ≠ y := ne_in
              obtain ⟨s, hs⟩ : ∃ s, inAt x k = s := ⟨_, rfl⟩
              obtain ⟨t, ht⟩ : ∃ t, inAt y k = t := ⟨_, rfl⟩
              rw [hs] at q3 ht1 hnin
              rw [ht] at q4 ht2 hnin
              have HT1 := Lib.hid ht1
              have HT2 := Lib.hid ht2
              have HNi := Lib.hid hnin
              clear hs ht ht1 ht2 hnin
              by_cases he : s = t
              · have hb : (s != t) = false := by simp [he]
                have HEq := Lib.hid he
                clear he
                go_wp2_with fail
                go_quiet (fail)
                go_wp2_with fail
                go_roundw
                case rel => exact ⟨k + 1, _, by omega, by go_num, rfl, Lib.hid (by rw [HT1.out, HT2.out, HE2.out, HEq.out])⟩
                case measure => simp [intOf]; omega
              · have hb : (s != t) = true := by simp [he]
                have HNe2 := Lib.hid he
                clear he
                go_wp2_with fail
                go_quiet (fail)
                go_wp2_with fail
                go_ret
                refine ⟨?_, by (try simp only [World.drewN_drewN]); exact ⟨_, rfl⟩⟩
                rw [decide_eq_false (HNa.out (HNi.out HNe2.out))]
                rfl
            · obtain rfl : k = x.length := by omega
              have hxy : x = y := by
                have := HE2.out
                rw [List.take_length, List.take_of_length_le (by have := HL.out; omega)] at this
                exact this
              have HXy := Lib.hid hxy
              clear hxy
              go_wp2_with fail
              refine ⟨⟨i + 1, _, by omega, by go_num, rfl, Lib.hid (by rw [HS1.out, HS2.out, HE.out, HXy.out])⟩, by simp [intOf]; omega⟩
        · have hl1 : ((x.length : Int) != (y.length : Int)) = true := by simp; omega
          have hl2 : (x.length != y.length) = true := by simp [hl]
          have HL : Hid (x ≠ y) := Lib.hid (fun e => hl (by rw [e]))
          clear hl
          go_wp2_with fail
          go_quiet (fail)
          go_wp2_with fail
          go_ret
          refine ⟨?_, by (try simp only [World.drewN_drewN]); exact ⟨_, rfl⟩⟩
          rw [decide_eq_false (HNa.out HL.out)]
          rfl
      · obtain rfl : i = f.length := by omega
        go_wp2_with fail
        go_ret
        refine ⟨?_, by (try simp only [World.drewN_drewN]); exact ⟨_, rfl⟩⟩
        have := HE.out
        rw [List.take_length, List.take_of_length_le (by have := HNe.out; omega)] at this
        rw [decide_eq_true this]
        rfl
  · have hne1 : ((f.length : Int) != (g.length : Int)) = true := by simp; omega
    have hne2 : (f.length != g.length) = true := by simp [hne]
    have HNe : Hid (f ≠ g) := Lib.hid (fun e => hne (by rw [e]))
    clear hne
    go_enter Tryd.func6, Tryd.ntmps6
    go_wp2_with fail
    go_ret
    refine ⟨?_, ⟨0, rfl⟩⟩
    rw [decide_eq_false HNe.out]
    rfl

end Go.Proofs.YtehokjaojanieaaDoor
