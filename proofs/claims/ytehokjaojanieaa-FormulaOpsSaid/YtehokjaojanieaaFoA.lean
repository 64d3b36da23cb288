/- package formula: rises, inOrder; slices.Compare, cmp.Compare. -/
import Derived.Test.YtehokjaojanieaaFm
import Derived.Test.YtehokjaojanieaaFmLess
import Derived.Test.YtehokjaojanieaaFmMath
import Derived.Test.YtehokjaojanieaaFmOpMath
namespace Go.Proofs.Ytehokjaojanieaa
open Go.RowKit
set_option linter.unusedVariables false
set_option linter.unusedSimpArgs false

def cmpI (x y : Int) : Int := if x < y then -1 else if y < x then 1 else 0
def cmpL : List Int → List Int → Int
  | [], [] => 0
  | [], _ :: _ => -1
  | _ :: _, [] => 1
  | x :: a, y :: b => if cmpI x y = 0 then cmpL a b else cmpI x y
def ordS (a b : List Int) : Int := if a.length = b.length then cmpL a b else cmpI a.length b.length
theorem cmpI_self {x y : Int} : cmpI x y = 0 ↔ x = y := by unfold cmpI; split; · constructor <;> intro h <;> omega
                                                           · split <;> constructor <;> intro h <;> omega
theorem cmpL_lt : ∀ (a b : List Int), a.length = b.length → (cmpL a b < 0 ↔ lexS a b = true)
  | [], [], _ => by simp [cmpL, lexS]
  | x :: a, y :: b, h => by
    have ih := cmpL_lt a b (by simpa using h)
    unfold cmpL lexS cmpI
    by_cases h1 : x < y
    · have : ¬ x = y := by omega
      simp [h1, this]
    · by_cases h2 : y < x
      · have : ¬ x = y := by omega
        simp [h1, h2, this]
      · have : x = y := by omega
        subst this
        simp [ih]
theorem cmpL_eq : ∀ (a b : List Int), a.length = b.length → (cmpL a b = 0 ↔ a = b)
  | [], [], _ => by simp [cmpL]
  | x :: a, y :: b, h => by
    have ih := cmpL_eq a b (by simpa using h)
    unfold cmpL
    by_cases h1 : cmpI x y = 0
    · rw [if_pos h1, ih, cmpI_self.1 h1]; simp
    · rw [if_neg h1]
      have : x ≠ y := fun e => h1 (cmpI_self.2 e)
      simp [h1, this]
theorem ord_lt {a b : List Int} : ordS a b < 0 ↔ lessS a b = true := by
  unfold ordS lessS
  by_cases h : a.length = b.length
  · rw [if_pos h, if_pos h]; exact cmpL_lt a b h
  · rw [if_neg h, if_neg h]
    unfold cmpI
    by_cases h1 : (a.length : Int) < b.length
    · rw [if_pos h1, decide_eq_true (by omega : a.length < b.length)]; simp
    · rw [if_neg h1, decide_eq_false (by omega : ¬ a.length < b.length)]
      by_cases h2 : (b.length : Int) < a.length
      · rw [if_pos h2]; simp
      · omega
theorem ord_eq {a b : List Int} : ordS a b = 0 ↔ a = b := by
  unfold ordS
  by_cases h : a.length = b.length
  · rw [if_pos h]; exact cmpL_eq a b h
  · rw [if_neg h]
    constructor
    · intro e; have := cmpI_self.1 e; omega
    · intro e; rw [e] at h; exact absurd rfl h
theorem ord_ge {a b : List Int} : ordS a b ≥ 0 ↔ lessS a b = false := by
  rw [← Bool.not_eq_true, ← ord_lt]; omega
theorem cmp_step {a b : List Int} {i : Nat} (ha : i < a.length) (hb : i < b.length) : cmpL (a.drop i) (b.drop i) = if cmpI (inAt a i) (inAt b i) = 0 then cmpL (a.drop (i + 1)) (b.drop (i + 1)) else cmpI (inAt a i) (inAt b i) := by
  rw [drop_at a i ha, drop_at b i hb]; rfl

set_option maxRecDepth 100000 in
set_option maxHeartbeats 2000000 in
theorem fCmp (x y : Int) (w : World) : Calls Try.prog 43 #[.int .i64 x, .int .i64 y] w fun e w' => e = .returned (.int .i64 (cmpI x y)) ∧ w' = w := by
  have hx : (x != x) = false := by simp
  have hy : (y != y) = false := by simp
  go_enter Try.func43, Try.ntmps43
  by_cases h1 : x < y
  · have HE : Hid (cmpI x y = -1) := Lib.hid (by unfold cmpI; rw [if_pos h1])
    go_wp2_with go_in
    all_goals (go_ret; exact ⟨by rw [HE.out]; rfl, rfl⟩)
  · by_cases h2 : y < x
    · have h2' : x > y := h2
      have HE : Hid (cmpI x y = 1) := Lib.hid (by unfold cmpI; rw [if_neg h1, if_pos h2])
      go_wp2_with go_in
      all_goals (go_ret; exact ⟨by rw [HE.out]; rfl, rfl⟩)
    · have h2' : ¬ x > y := h2
      have HE : Hid (cmpI x y = 0) := Lib.hid (by unfold cmpI; rw [if_neg h1, if_neg h2])
      go_wp2_with go_in
      all_goals (go_ret; exact ⟨by rw [HE.out]; rfl, rfl⟩)

set_option maxRecDepth 100000 in
set_option maxHeartbeats 2000000 in
theorem fCompare (a b : List Int) (A B : Option Addr) (n c m d : Nat) (w : World) (h : IntsAt w (.slice A n c) a) (h' : IntsAt w (.slice B m d) b) :
    Calls Try.prog 44 #[.slice A n c, .slice B m d] w fun e w' => e = .returned (.int .i64 (cmpL a b)) ∧ w' = w := by
  have HI := Lib.hid h
  have HJ := Lib.hid h'
  have hm := h.max
  have hm' := h'.max
  obtain rfl := h.len
  obtain rfl := h'.len
  clear h h'
  go_enter Try.func44, Try.ntmps44
  go_wp2_with fail
  go_loopw [11] (fun v wr => ∃ i : Nat, i ≤ a.length ∧ i ≤ b.length ∧ v = .int .i64 i ∧ w = wr ∧ Hid (cmpL a b = cmpL (a.drop i) (b.drop i))) (fun v _ => a.length - (intOf v).toNat)
  case atStart => exact ⟨0, Nat.zero_le _, Nat.zero_le _, rfl, rfl, Lib.hid rfl⟩
  case round =>
    obtain ⟨i, hi, hib, rfl, rfl, HN⟩ := hrel
    by_cases hlt : i < a.length
    · have h1 : (0 : Int) ≤ (i : Int) := by omega
      have h2 : (i : Int) < (a.length : Int) := by omega
      obtain ⟨ba, oa, rfl, _, q1⟩ := HI.out.at i hlt
      by_cases hlb : i < b.length
      · have h3 : (i : Int) < (b.length : Int) := by omega
        have h4 : ¬ ((b.length : Int) ≤ (i : Int)) := by omega
        have h4' : ¬ ((i : Int) ≥ (b.length : Int)) := by omega
        obtain ⟨bb, ob, rfl, _, q2⟩ := HJ.out.at i hlb
        have hst := Lib.hid (HN.out.trans (cmp_step hlt hlb))
        obtain ⟨x, hx⟩ : ∃ x, inAt a i = x := ⟨_, rfl⟩
        obtain ⟨y, hy⟩ : ∃ y, inAt b i = y := ⟨_, rfl⟩
        rw [hx] at q1 hst
        rw [hy] at q2 hst
        clear hx hy
        obtain ⟨z, hz⟩ : ∃ z, cmpI x y = z := ⟨_, rfl⟩
        have HZ := Lib.hid hz
        clear hz
        by_cases hz0 : z = 0
        · have hz1 : (z != 0) = false := by simp [hz0]
          go_wp2_with fail
          refine (fCmp x y _).mono ?_
          rintro e w3 ⟨rfl, rfl⟩
          rw [HZ.out]
          go_wp2_with fail
          refine ⟨⟨i + 1, by omega, by omega, by go_num, by first | rfl | trivial, Lib.hid (by have := hst.out; rwa [HZ.out, if_pos hz0] at this)⟩, by simp [intOf]; omega⟩
        · have hz1 : (z != 0) = true := by simp [hz0]
          go_wp2_with fail
          refine (fCmp x y _).mono ?_
          rintro e w3 ⟨rfl, rfl⟩
          rw [HZ.out]
          go_wp2_with fail
          go_ret
          refine ⟨?_, rfl⟩
          have := hst.out
          rw [HZ.out, if_neg hz0] at this
          rw [this]; rfl
      · obtain rfl : i = b.length := by omega
        have h4' : (b.length : Int) ≥ (b.length : Int) := by omega
        go_wp2_with fail
        go_ret
        refine ⟨?_, rfl⟩
        rw [HN.out, drop_at a _ hlt, List.drop_length]; rfl
    · obtain rfl : i = a.length := by omega
      have hN : Hid (cmpL a b = cmpL [] (b.drop a.length)) := Lib.hid (by have := HN.out; rwa [List.drop_length] at this)
      by_cases hlb : a.length < b.length
      · have h3 : (a.length : Int) < (b.length : Int) := by omega
        go_wp2_with fail
        go_ret
        refine ⟨?_, rfl⟩
        rw [hN.out, drop_at b _ hlb]; rfl
      · have h3 : ¬ ((a.length : Int) < (b.length : Int)) := by omega
        have he : Hid (cmpL a b = 0) := Lib.hid (by rw [hN.out, show a.length = b.length by omega, List.drop_length]; rfl)
        go_wp2_with fail
        go_ret
        exact ⟨by rw [he.out]; rfl, rfl⟩

set_option maxRecDepth 100000 in
set_option maxHeartbeats 2000000 in
theorem fOrd (a b : List Int) (A B : Option Addr) (n c m d : Nat) (w : World) (h : IntsAt w (.slice A n c) a) (h' : IntsAt w (.slice B m d) b) :
    Calls Try.prog 23 #[.slice A n c, .slice B m d] w fun e w' => e = .returned (.int .i64 (ordS a b)) ∧ w' = w := by
  have HI := Lib.hid h
  have HJ := Lib.hid h'
  have hm := h.max
  have hm' := h'.max
  obtain rfl := h.len
  obtain rfl := h'.len
  clear h h'
  go_enter Try.func23, Try.ntmps23
  unfold ordS
  by_cases hl : a.length = b.length
  · have h1 : ((a.length : Int) != (b.length : Int)) = false := by simp [hl]
    rw [if_pos hl]
    have HL := Lib.hid hl
    clear hl
    go_wp2_with fail
    refine (fCompare a b A B _ c _ d _ HI.out HJ.out).mono ?_
    rintro e w3 ⟨rfl, rfl⟩
    go_wp2_with fail
    go_ret
    exact ⟨rfl, rfl⟩
  · have h1 : ((a.length : Int) != (b.length : Int)) = true := by simp; omega
    rw [if_neg hl]
    go_wp2_with fail
    refine (fCmp _ _ _).mono ?_
    rintro e w3 ⟨rfl, rfl⟩
    go_wp2_with fail
    go_ret
    exact ⟨rfl, rfl⟩

/-- The numbers rise, from 0 or more on. -/
def upS : Int → List Int → Bool
  | _, [] => true
  | l, x :: r => decide (l < x) && upS x r
theorem up_iff : ∀ (l : Int) (p : List Int), upS l p = true ↔ Up p ∧ ∀ x ∈ p, l < x
  | l, [] => by simp [upS, Up]
  | l, x :: r => by
    unfold upS
    rw [Bool.and_eq_true, up_iff x r]
    unfold Up
    rw [List.pairwise_cons]
    simp only [decide_eq_true_eq, List.mem_cons, forall_eq_or_imp]
    constructor
    · rintro ⟨h, h1, h2⟩; exact ⟨⟨h2, h1⟩, h, fun y hy => by have := h2 y hy; omega⟩
    · rintro ⟨⟨h2, h1⟩, h, h3⟩; exact ⟨h, h1, h2⟩

set_option maxRecDepth 100000 in
set_option maxHeartbeats 2000000 in
theorem fRises (a : List Int) (A : Option Addr) (n c : Nat) (w : World) (h : IntsAt w (.slice A n c) a) :
    Calls Try.prog 22 #[.slice A n c] w fun e w' => e = .returned (.bool (upS (-1) a)) ∧ w' = w := by
  have HI := Lib.hid h
  have hm := h.max
  obtain rfl := h.len
  clear h
  go_enter Try.func22, Try.ntmps22
  go_wp2_with fail
  go_loopw [3, 8] (fun u v wr => ∃ (i : Nat) (l : Int), i ≤ a.length ∧ v = .int .i64 i ∧ u = .int .i64 l ∧ w = wr ∧ Hid (upS (-1) a = upS l (a.drop i))) (fun _ v _ => a.length - (intOf v).toNat)
  case atStart => exact ⟨0, -1, Nat.zero_le _, rfl, rfl, rfl, Lib.hid rfl⟩
  case round =>
    obtain ⟨i, l, hi, rfl, rfl, rfl, HN⟩ := hrel
    by_cases hlt : i < a.length
    · have h1 : (0 : Int) ≤ (i : Int) := by omega
      have h2 : (i : Int) < (a.length : Int) := by omega
      obtain ⟨ba, oa, rfl, _, q1⟩ := HI.out.at i hlt
      have hst : Hid (upS (-1) a = (decide (l < inAt a i) && upS (inAt a i) (a.drop (i + 1)))) := Lib.hid (by rw [HN.out, drop_at a i hlt]; rfl)
      obtain ⟨x, hx⟩ : ∃ x, inAt a i = x := ⟨_, rfl⟩
      rw [hx] at q1 hst
      clear hx
      by_cases hz : l < x
      · have h3 : ¬ (x ≤ l) := by omega
        go_wp2_with fail
        refine ⟨⟨i + 1, x, by omega, by go_num, rfl, by first | rfl | trivial, Lib.hid (by rw [hst.out, decide_eq_true hz, Bool.true_and])⟩, by simp [intOf]; omega⟩
      · have h3 : x ≤ l := by omega
        go_wp2_with fail
        go_ret
        refine ⟨?_, rfl⟩
        rw [hst.out, decide_eq_false (by omega : ¬ l < x), Bool.false_and]; rfl
    · obtain rfl : i = a.length := by omega
      go_wp2_with fail
      go_ret
      refine ⟨?_, rfl⟩
      rw [HN.out, List.drop_length]; rfl

end Go.Proofs.Ytehokjaojanieaa
