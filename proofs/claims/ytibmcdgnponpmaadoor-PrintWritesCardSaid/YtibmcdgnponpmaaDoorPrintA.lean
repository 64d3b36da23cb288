/- What package print writes: an escape, a set, how often, what opens a look. -/
import Derived.Test.YtibmcdgnponpmaaDoorBld
import Derived.Test.YtibmcdgnponpmaaDoorBldLib
import Derived.Test.YtibmcdgnponpmaaDoorTextS
import Derived.Test.YtibmcdgnponpmaaDoorRanges
import Derived.Deep.QuietTactic
import Derived.BigQuiet
namespace Go.Proofs.YtibmcdgnponpmaaDoor
open Go.RowKit
set_option linter.unusedSimpArgs false
set_option linter.unusedVariables false

/-- What a call that writes s behind x leaves. -/
def Wrote (b : Nat) (x s : ByteArray) (w : World) (e : Ending) (w' : World) : Prop := e = .returned (.tuple #[]) ∧ Bd w' b (x ++ s) ∧ KeepB b w w'

theorem dig_get' : ∀ q : Fin 16, (ByteArray.mk #[48, 49, 50, 51, 52, 53, 54, 55, 56, 57, 97, 98, 99, 100, 101, 102])[q.val]'(q.isLt) = hexd q.val := by decide
theorem dig_get (q : Nat) (h : q < 16) : (ByteArray.mk #[48, 49, 50, 51, 52, 53, 54, 55, 56, 57, 97, 98, 99, 100, 101, 102])[q]'h = hexd q := dig_get' ⟨q, h⟩

set_option maxRecDepth 100000 in
set_option maxHeartbeats 2000000 in
theorem pEscape (b c : Nat) (hc : c < 256) (x : ByteArray) (w : World) (h : Bd w b x) (hs : x.size + 4 ≤ 1000000000) : Calls Tryd.prog 37 #[.pointer (some ⟨b, 0, none⟩), .int .u8 c] w (Wrote b x (xT c) w) := by
  have HBd := Lib.hid h
  clear h
  go_enter Tryd.func37, Tryd.ntmps37
  go_wp2_with fail
  refine (bWriteString b x ⟨#[92, 120]⟩ _ HBd.out (by show x.size + 2 ≤ _; omega)).mono ?_
  rintro e w1 ⟨rfl, h1, hk1⟩
  have HB1 := Lib.hid h1
  have HK1 := Lib.hid hk1
  clear h1 hk1
  go_wp2_with fail
  have e1 := dig_get (c / 16) (by omega)
  refine (bWriteByte b _ (hexd (c / 16)) _ (by rw [e1]) _ HB1.out (by rw [size_app]; show x.size + 2 + 1 ≤ _; omega)).mono ?_
  rintro e w2 ⟨rfl, h2, hk2⟩
  have HB2 := Lib.hid h2
  have HK2 := Lib.hid hk2
  clear h2 hk2 e1
  go_wp2_with fail
  have e2 := dig_get (c % 16) (by omega)
  refine (bWriteByte b _ (hexd (c % 16)) _ (by rw [e2]) _ HB2.out (by rw [size_app, size_app]; show x.size + 2 + 1 + 1 ≤ _; omega)).mono ?_
  rintro e w3 ⟨rfl, h3, hk3⟩
  have HB3 := Lib.hid h3
  have HK3 := Lib.hid hk3
  clear h3 hk3 e2
  go_wp2_with fail
  go_end0
  refine ⟨rfl, ?_, (HK1.out.trans HK2.out).trans HK3.out⟩
  have e : xT c = ⟨#[92, 120]⟩ ++ ⟨#[hexd (c / 16)]⟩ ++ ⟨#[hexd (c % 16)]⟩ := by unfold xT hexT; rw [app_app]; rfl
  rw [e, ← app_app, ← app_app]
  exact HB3.out

set_option maxRecDepth 100000 in
set_option maxHeartbeats 2000000 in
theorem pOpening (kd : Int) (hk : kd = 8 ∨ kd = 9) (neg : Bool) (w : World) : Calls Tryd.prog 28 #[.int .i64 kd, .bool neg] w fun e w' => e = .returned (.string (lookT kd neg)) ∧ w' = w := by
  rcases hk with rfl | rfl <;> cases neg
  all_goals
    go_enter Tryd.func28, Tryd.ntmps28
    go_wp2_with fail
    go_ret
    exact ⟨rfl, rfl⟩
theorem digits_are : ∀ n : Fin 21, (⟨(Lib.decDigits n.val).toArray⟩ : ByteArray) = digT n.val := by decide +kernel
theorem itoa (n : Nat) (hn : n ≤ 20) (w : World) : Calls Tryd.prog 38 #[.int .i64 n] w fun e w' => e = .returned (.string (digT n)) ∧ w' = w := by
  rw [← digits_are ⟨n, by omega⟩]
  exact lib_strconv_Itoa_small n (by omega) w

set_option maxRecDepth 100000 in
set_option maxHeartbeats 2000000 in
theorem pBounds (b : Nat) (lo hi : Int) (ht : 0 ≤ lo ∧ lo ≤ 20 ∧ (hi = -1 ∨ (lo ≤ hi ∧ 1 ≤ hi ∧ hi ≤ 20))) (x : ByteArray) (w : World) (h : Bd w b x) (hs : x.size + 10 ≤ 1000000000) : Calls Tryd.prog 27 #[.pointer (some ⟨b, 0, none⟩), .int .i64 lo, .int .i64 hi] w (Wrote b x (boundsT lo hi) w) := by
  obtain ⟨n, hn, hn2⟩ : ∃ n : Nat, lo = n ∧ n ≤ 20 := ⟨lo.toNat, by omega, by omega⟩
  subst hn
  have hdn := digT_size (n := n)
  have HBd := Lib.hid h
  have s1 : (ByteArray.mk #[123]).size = 1 := rfl
  have s2 : (ByteArray.mk #[44]).size = 1 := rfl
  clear h
  rcases ht.2.2 with rfl | hh
  · have HE : Hid (boundsT (n : Int) (-1) = ⟨#[123]⟩ ++ digT n ++ ⟨#[44]⟩ ++ ⟨#[125]⟩) := Lib.hid (by unfold boundsT; rw [if_neg (by decide), Int.toNat_natCast, app_no])
    clear ht
    go_enter Tryd.func27, Tryd.ntmps27
    go_wp2_with fail
    refine (bWriteByte b x 123 123 rfl _ HBd.out (by omega)).mono ?_
    rintro e w1 ⟨rfl, h1, hk1⟩
    have HB1 := Lib.hid h1
    have HK1 := Lib.hid hk1
    clear h1 hk1
    go_wp2_with fail
    refine (itoa n hn2 _).mono ?_
    rintro e w2 ⟨rfl, rfl⟩
    go_wp2_with fail
    refine (bWriteString b _ (digT n) _ HB1.out (by rw [size_app]; omega)).mono ?_
    rintro e w2 ⟨rfl, h2, hk2⟩
    have HB2 := Lib.hid h2
    have HK2 := Lib.hid hk2
    clear h2 hk2
    go_wp2_with fail
    refine (bWriteByte b _ 44 44 rfl _ HB2.out (by rw [size_app, size_app]; omega)).mono ?_
    rintro e w3 ⟨rfl, h3, hk3⟩
    have HB3 := Lib.hid h3
    have HK3 := Lib.hid hk3
    clear h3 hk3
    go_wp2_with fail
    refine (bWriteByte b _ 125 125 rfl _ HB3.out (by rw [size_app, size_app, size_app]; omega)).mono ?_
    rintro e w4 ⟨rfl, h4, hk4⟩
    have HB4 := Lib.hid h4
    have HK4 := Lib.hid hk4
    clear h4 hk4
    go_wp2_with fail
    go_end0
    refine ⟨rfl, ?_, ((HK1.out.trans HK2.out).trans HK3.out).trans HK4.out⟩
    have := HB4.out
    rw [app_app, app_app, app_app] at this
    rw [HE.out]
    simp only [app_app] at this ⊢
    exact this
  · obtain ⟨m, hm, hm2⟩ : ∃ m : Nat, hi = m ∧ m ≤ 20 := ⟨hi.toNat, by omega, by omega⟩
    subst hm
    have hdm := digT_size (n := m)
    have HE : Hid (boundsT (n : Int) (m : Int) = ⟨#[123]⟩ ++ digT n ++ ⟨#[44]⟩ ++ digT m ++ ⟨#[125]⟩) := Lib.hid (by unfold boundsT; rw [if_pos (by omega), Int.toNat_natCast, Int.toNat_natCast])
    have hne : ((m : Int) != -1) = true := by rw [bne_iff_ne]; omega
    have hne2 : ((m : Int) == -1) = false := beq_eq_false_iff_ne.2 (by omega)
    clear ht hh
    go_enter Tryd.func27, Tryd.ntmps27
    go_wp2_with fail
    refine (bWriteByte b x 123 123 rfl _ HBd.out (by omega)).mono ?_
    rintro e w1 ⟨rfl, h1, hk1⟩
    have HB1 := Lib.hid h1
    have HK1 := Lib.hid hk1
    clear h1 hk1
    go_wp2_with fail
    refine (itoa n hn2 _).mono ?_
    rintro e w2 ⟨rfl, rfl⟩
    go_wp2_with fail
    refine (bWriteString b _ (digT n) _ HB1.out (by rw [size_app]; omega)).mono ?_
    rintro e w2 ⟨rfl, h2, hk2⟩
    have HB2 := Lib.hid h2
    have HK2 := Lib.hid hk2
    clear h2 hk2
    go_wp2_with fail
    refine (bWriteByte b _ 44 44 rfl _ HB2.out (by rw [size_app, size_app]; omega)).mono ?_
    rintro e w3 ⟨rfl, h3, hk3⟩
    have HB3 := Lib.hid h3
    have HK3 := Lib.hid hk3
    clear h3 hk3
    go_wp2_with fail
    refine (itoa m hm2 _).mono ?_
    rintro e w5 ⟨rfl, rfl⟩
    go_wp2_with fail
    refine (bWriteString b _ (digT m) _ HB3.out (by rw [size_app, size_app, size_app]; omega)).mono ?_
    rintro e w5 ⟨rfl, h5, hk5⟩
    have HB5 := Lib.hid h5
    have HK5 := Lib.hid hk5
    clear h5 hk5
    go_wp2_with fail
    refine (bWriteByte b _ 125 125 rfl _ HB5.out (by rw [size_app, size_app, size_app, size_app]; omega)).mono ?_
    rintro e w4 ⟨rfl, h4, hk4⟩
    have HB4 := Lib.hid h4
    have HK4 := Lib.hid hk4
    clear h4 hk4
    go_wp2_with fail
    go_end0
    refine ⟨rfl, ?_, (((HK1.out.trans HK2.out).trans HK3.out).trans HK5.out).trans HK4.out⟩
    have := HB4.out
    rw [HE.out]
    simp only [app_app] at this ⊢
    exact this

end Go.Proofs.YtibmcdgnponpmaaDoor
