/- Joined: RefDigits, RefHas, RefHex, RefClassT, TextS. -/
import Derived.Test.YtibmcdgnponpmaaProg
import Derived.Test.YtibmcdgnponpmaaMa
import Derived.Laws.IdiomStrings
import Derived.Deep.QuietTactic
import Derived.BigQuiet
/- What the reference's Digits answers, for numbers up to 20. -/
namespace Go.Proofs.Ytibmcdgnponpmaa
open Go.RowKit
set_option linter.unusedSimpArgs false
set_option linter.unusedVariables false

def digL (n : Nat) : List UInt8 := if 9 < n then [(48 + n / 10 % 10).toUInt8, (48 + n % 10).toUInt8] else [(48 + n % 10).toUInt8]
def digT (n : Nat) : ByteArray := ⟨(digL n).toArray⟩

set_option maxRecDepth 100000 in
set_option maxHeartbeats 4000000 in
theorem refDigits (n : Nat) (hn : n ≤ 20) (w : World) : Calls Try.prog 19 #[.int .i64 n] w fun e w' => e = .returned (.string (digT n)) ∧ Below w.heap.size w w' := by
  have hq : (n : Int) / 10 = ((n / 10 : Nat) : Int) := by omega
  by_cases h9 : 9 < n
  · have hd : (9 : Int) < (n : Int) := by omega
    have hT : Hid (digT n = ⟨[(48 + n / 10 % 10).toUInt8, (48 + n % 10).toUInt8].toArray⟩) := Lib.hid (by unfold digT digL; rw [if_pos h9])
    clear h9
    have hA := At.new w 5 #[.int .u8 (48 + n / 10 % 10), .int .u8 (48 + n % 10)]
    have hcv1 : (Go.convert 58 9 (.slice (some ⟨w.heap.size, 0, none⟩) 2 2)).run Try.prog (w.alloc (.cells #[.int .u8 (48 + n / 10 % 10), .int .u8 (48 + n % 10)] 5)) = .ok (.string (digT n)) (w.alloc (.cells #[.int .u8 (48 + n / 10 % 10), .int .u8 (48 + n % 10)] 5)) := by
      rw [hT.out]
      refine run_convert_bytes_back _ 58 9 5 ⟨w.heap.size, 0, none⟩ 2 [(48 + n / 10 % 10).toUInt8, (48 + n % 10).toUInt8] Try.underlying58 Try.underlying5 Try.underlying9 (fun j hj => ?_)
      have hj' : j < 2 := hj
      rw [Addr.add_mid, hA.cell]
      have e1 : ((48 + n / 10 % 10).toUInt8.toNat : Int) = 48 + (n : Int) / 10 % 10 := by
        rw [show (48 + n / 10 % 10).toUInt8.toNat = 48 + n / 10 % 10 from UInt8.toNat_ofNat_of_lt' (by show _ < 256; omega)]; omega
      have e2 : ((48 + n % 10).toUInt8.toNat : Int) = 48 + (n : Int) % 10 := by
        rw [show (48 + n % 10).toUInt8.toNat = 48 + n % 10 from UInt8.toNat_ofNat_of_lt' (by show _ < 256; omega)]; omega
      match j, hj' with
      | 0, _ => show some _ = some _; rw [List.getElem_cons_zero, e1]; rfl
      | 1, _ => show some _ = some _; rw [List.getElem_cons_succ, List.getElem_cons_zero, e2]; rfl
    have hb : Below w.heap.size w (w.alloc (.cells #[.int .u8 (48 + n / 10 % 10), .int .u8 (48 + n % 10)] 5)) := (Below.refl _ _).alloc (Nat.le_refl _) _
    clear hA hq
    go_enter Try.func19, Try.ntmps19
    go_wp2
    go_ret
    exact ⟨rfl, hb⟩
  · have hd : ¬ (9 : Int) < (n : Int) := by omega
    have hT : Hid (digT n = ⟨[(48 + n % 10).toUInt8].toArray⟩) := Lib.hid (by unfold digT digL; rw [if_neg h9])
    clear h9
    have hA := At.new w 5 #[.int .u8 (48 + n % 10)]
    have hcv1 : (Go.convert 58 9 (.slice (some ⟨w.heap.size, 0, none⟩) 1 1)).run Try.prog (w.alloc (.cells #[.int .u8 (48 + n % 10)] 5)) = .ok (.string (digT n)) (w.alloc (.cells #[.int .u8 (48 + n % 10)] 5)) := by
      rw [hT.out]
      refine run_convert_bytes_back _ 58 9 5 ⟨w.heap.size, 0, none⟩ 1 [(48 + n % 10).toUInt8] Try.underlying58 Try.underlying5 Try.underlying9 (fun j hj => ?_)
      have hj' : j < 1 := hj
      rw [Addr.add_mid, hA.cell]
      have e2 : ((48 + n % 10).toUInt8.toNat : Int) = 48 + (n : Int) % 10 := by
        rw [show (48 + n % 10).toUInt8.toNat = 48 + n % 10 from UInt8.toNat_ofNat_of_lt' (by show _ < 256; omega)]; omega
      match j, hj' with
      | 0, _ => show some _ = some _; rw [List.getElem_cons_zero, e2]; rfl
    have hb : Below w.heap.size w (w.alloc (.cells #[.int .u8 (48 + n % 10)] 5)) := (Below.refl _ _).alloc (Nat.le_refl _) _
    clear hA hq
    go_enter Try.func19, Try.ntmps19
    go_wp2
    go_ret
    exact ⟨rfl, hb⟩
end Go.Proofs.Ytibmcdgnponpmaa

/- What the reference's Has answers, of any set and byte. -/
namespace Go.Proofs.Ytibmcdgnponpmaa
open Go.RowKit

theorem ret_bool {a b : Bool} (h : a = b) : Ending.returned (.bool a) = .returned (.bool b) := by rw [h]
theorem St.has_of (s : St) (b q r : Nat) (hb : b = 64 * q + r) (hr : r < 64) : s.has b = (s.word q).testBit r := by
  unfold St.has; rw [show b / 64 = q from by omega, show b % 64 = r from by omega]

set_option maxHeartbeats 400000 in
theorem refHas (s : St) (hs : s.Ok) (b : Nat) (hb : b < 256) (w : World) :
    Calls Try.prog 29 #[.agg #[.int .u64 s.w0, .int .u64 s.w1, .int .u64 s.w2, .int .u64 s.w3], .int .i64 b] w fun e w' => e = .returned (.bool (s.has b)) ∧ Below w.heap.size w w' := by
  obtain ⟨r, hr⟩ : ∃ r : Nat, r = b % 64 := ⟨_, rfl⟩
  have hm : (b : Int) % 64 = r := by omega
  have hq : b / 64 = 0 ∨ b / 64 = 1 ∨ b / 64 = 2 ∨ b / 64 = 3 := by omega
  have hr' : r < 64 := by omega
  rcases hq with hq | hq | hq | hq
  · have hd : (b : Int) / 64 = 0 := by omega
    have HR := Lib.hid (s.has_of b 0 r (by omega) hr')
    clear hr hq
    go_enter Try.func29, Try.ntmps29
    go_wp2
    go_loop [5, 12] (fun x i => ∃ k : Nat, k ≤ r ∧ i = .int .i64 k ∧ x = .int .u64 (hv s.w0 k : Nat)) (fun _ i => r - (intOf i).toNat)
    case atStart => exact ⟨0, Nat.zero_le _, rfl, by rw [hv_zero]⟩
    case round =>
      obtain ⟨k, hk, rfl, rfl⟩ := hrel
      by_cases hlt : k < r
      · go_wp2
        go_round
        case rel => exact ⟨k + 1, by omega, by go_num, by rw [hv_half' _ _ hs.o0]⟩
        case measure => simp [intOf]; omega
      · have hkr : k = r := by omega
        subst hkr
        go_wp2
        go_ret
        exact ⟨ret_bool ((hv_bit' _ _).trans HR.out.symm), (Below.refl _ _).alloc (Nat.le_refl _) _⟩
  · have hd : (b : Int) / 64 = 1 := by omega
    have HR := Lib.hid (s.has_of b 1 r (by omega) hr')
    clear hr hq
    go_enter Try.func29, Try.ntmps29
    go_wp2
    go_loop [5, 12] (fun x i => ∃ k : Nat, k ≤ r ∧ i = .int .i64 k ∧ x = .int .u64 (hv s.w1 k : Nat)) (fun _ i => r - (intOf i).toNat)
    case atStart => exact ⟨0, Nat.zero_le _, rfl, by rw [hv_zero]⟩
    case round =>
      obtain ⟨k, hk, rfl, rfl⟩ := hrel
      by_cases hlt : k < r
      · go_wp2
        go_round
        case rel => exact ⟨k + 1, by omega, by go_num, by rw [hv_half' _ _ hs.o1]⟩
        case measure => simp [intOf]; omega
      · have hkr : k = r := by omega
        subst hkr
        go_wp2
        go_ret
        exact ⟨ret_bool ((hv_bit' _ _).trans HR.out.symm), (Below.refl _ _).alloc (Nat.le_refl _) _⟩
  · have hd : (b : Int) / 64 = 2 := by omega
    have HR := Lib.hid (s.has_of b 2 r (by omega) hr')
    clear hr hq
    go_enter Try.func29, Try.ntmps29
    go_wp2
    go_loop [5, 12] (fun x i => ∃ k : Nat, k ≤ r ∧ i = .int .i64 k ∧ x = .int .u64 (hv s.w2 k : Nat)) (fun _ i => r - (intOf i).toNat)
    case atStart => exact ⟨0, Nat.zero_le _, rfl, by rw [hv_zero]⟩
    case round =>
      obtain ⟨k, hk, rfl, rfl⟩ := hrel
      by_cases hlt : k < r
      · go_wp2
        go_round
        case rel => exact ⟨k + 1, by omega, by go_num, by rw [hv_half' _ _ hs.o2]⟩
        case measure => simp [intOf]; omega
      · have hkr : k = r := by omega
        subst hkr
        go_wp2
        go_ret
        exact ⟨ret_bool ((hv_bit' _ _).trans HR.out.symm), (Below.refl _ _).alloc (Nat.le_refl _) _⟩
  · have hd : (b : Int) / 64 = 3 := by omega
    have HR := Lib.hid (s.has_of b 3 r (by omega) hr')
    clear hr hq
    go_enter Try.func29, Try.ntmps29
    go_wp2
    go_loop [5, 12] (fun x i => ∃ k : Nat, k ≤ r ∧ i = .int .i64 k ∧ x = .int .u64 (hv s.w3 k : Nat)) (fun _ i => r - (intOf i).toNat)
    case atStart => exact ⟨0, Nat.zero_le _, rfl, by rw [hv_zero]⟩
    case round =>
      obtain ⟨k, hk, rfl, rfl⟩ := hrel
      by_cases hlt : k < r
      · go_wp2
        go_round
        case rel => exact ⟨k + 1, by omega, by go_num, by rw [hv_half' _ _ hs.o3]⟩
        case measure => simp [intOf]; omega
      · have hkr : k = r := by omega
        subst hkr
        go_wp2
        go_ret
        exact ⟨ret_bool ((hv_bit' _ _).trans HR.out.symm), (Below.refl _ _).alloc (Nat.le_refl _) _⟩

theorem refHasV (s : St) (hs : s.Ok) (b : Nat) (hb : b < 256) (v : Bool) (hv : s.has b = v) (w : World) :
    Calls Try.prog 29 #[.agg #[.int .u64 s.w0, .int .u64 s.w1, .int .u64 s.w2, .int .u64 s.w3], .int .i64 b] w fun e w' => e = .returned (.bool v) ∧ Below w.heap.size w w' := by
  rw [← hv]; exact refHas s hs b hb w

end Go.Proofs.Ytibmcdgnponpmaa

/- What the reference's Hex answers. -/
namespace Go.Proofs.Ytibmcdgnponpmaa
open Go.RowKit
set_option linter.unusedSimpArgs false
set_option linter.unusedVariables false

def hexd (n : Nat) : UInt8 := if n < 10 then (48 + n).toUInt8 else (87 + n).toUInt8
def hexT (b : Nat) : ByteArray := ⟨#[hexd (b / 16), hexd (b % 16)]⟩
theorem digit_at : ∀ q : Fin 16, (ByteArray.mk #[48, 49, 50, 51, 52, 53, 54, 55, 56, 57, 97, 98, 99, 100, 101, 102]).extract q.val (q.val + 1) = ByteArray.mk #[hexd q.val] := by decide +kernel
set_option maxRecDepth 100000 in
set_option maxHeartbeats 4000000 in
theorem refHex (b : Nat) (hb : b < 256) (w : World) : Calls Try.prog 30 #[.int .i64 b] w fun e w' => e = .returned (.string (hexT b)) ∧ ∃ n, w' = w.drewN n := by
  obtain ⟨q, hq⟩ : ∃ q : Nat, b / 16 = q := ⟨_, rfl⟩
  obtain ⟨r, hr⟩ : ∃ r : Nat, b % 16 = r := ⟨_, rfl⟩
  have h1 : IntKind.i64.wrap ((b : Int) / 16) = (q : Int) := by rw [IntKind.wrap_i64]; omega
  have h2 : IntKind.i64.wrap ((q : Int) + 1) = (q : Int) + 1 := by rw [IntKind.wrap_i64]; omega
  have h3 : IntKind.i64.wrap ((b : Int) % 16) = (r : Int) := by rw [IntKind.wrap_i64]; omega
  have h4 : IntKind.i64.wrap ((r : Int) + 1) = (r : Int) + 1 := by rw [IntKind.wrap_i64]; omega
  have hq16 : q < 16 := by omega
  have hr16 : r < 16 := by omega
  have c1 : (0 : Int) ≤ (q : Int) + 1 := by omega
  have c2 : (q : Int) + 1 ≤ 16 := by omega
  have c3 : (q : Int) ≤ (q : Int) + 1 := by omega
  have c4 : (0 : Int) ≤ (r : Int) + 1 := by omega
  have c5 : (r : Int) + 1 ≤ 16 := by omega
  have c6 : (r : Int) ≤ (r : Int) + 1 := by omega
  have HE : Hid ((ByteArray.mk #[48, 49, 50, 51, 52, 53, 54, 55, 56, 57, 97, 98, 99, 100, 101, 102]).extract q (q + 1) ++ (ByteArray.mk #[48, 49, 50, 51, 52, 53, 54, 55, 56, 57, 97, 98, 99, 100, 101, 102]).extract (b % 16) (b % 16 + 1) = hexT b) := Lib.hid (by
    rw [hr, digit_at ⟨q, hq16⟩, digit_at ⟨r, hr16⟩]
    unfold hexT
    rw [hq, hr]; rfl)
  clear hb hq hr hq16 hr16
  go_enter Try.func30, Try.ntmps30
  go_wp2_with fail
  go_quiet (fail)
  go_wp2_with fail
  go_ret
  exact ⟨by rw [← HE.out]; rfl, nq, rfl⟩
end Go.Proofs.Ytibmcdgnponpmaa

/- What the reference's Class answers: the text of a set. -/
namespace Go.Proofs.Ytibmcdgnponpmaa
open Go.RowKit
set_option linter.unusedSimpArgs false
set_option linter.unusedVariables false

/-- The last byte of a range that holds e. -/
def endOf (s : St) : Nat → Nat → Nat
  | 0, e => e
  | f + 1, e => if e < 255 ∧ s.has (e + 1) = true then endOf s f (e + 1) else e
theorem endOf_bounds (s : St) : ∀ (f e : Nat), e ≤ 255 → e ≤ endOf s f e ∧ endOf s f e ≤ 255
  | 0, e, h => ⟨Nat.le_refl _, h⟩
  | f + 1, e, h => by
    unfold endOf
    split
    · have := endOf_bounds s f (e + 1) (by omega); omega
    · exact ⟨Nat.le_refl _, h⟩
theorem endOf_next {s : St} {f e : Nat} (h : e < 255) (hh : s.has (e + 1) = true) : endOf s (f + 1) e = endOf s f (e + 1) := by rw [endOf, if_pos ⟨h, hh⟩]
theorem endOf_stop {s : St} {f e : Nat} (h : ¬ (e < 255 ∧ s.has (e + 1) = true)) : endOf s (f + 1) e = e := by rw [endOf, if_neg h]
def xT (b : Nat) : ByteArray := ⟨#[92, 120]⟩ ++ hexT b
def dxT (b : Nat) : ByteArray := ⟨#[45, 92, 120]⟩ ++ hexT b
def noT : ByteArray := ⟨#[]⟩
/-- The text of the ranges from b on. -/
def clsFrom (s : St) : Nat → Nat → ByteArray
  | 0, _ => noT
  | f + 1, b => if 256 ≤ b then noT else if s.has b = false then clsFrom s f (b + 1)
    else xT b ++ ((if b < endOf s 256 b then dxT (endOf s 256 b) else noT) ++ clsFrom s f (endOf s 256 b + 1))
/-- The text of a set. -/
def clsT (s : St) : ByteArray := ⟨#[91]⟩ ++ clsFrom s 257 0 ++ ⟨#[93]⟩
theorem hexT_size (b : Nat) : (hexT b).size = 2 := rfl
theorem xT_size (b : Nat) : (xT b).size = 4 := by unfold xT; rw [ByteArray.size_append]; rfl
theorem dxT_size (b : Nat) : (dxT b).size = 5 := by unfold dxT; rw [ByteArray.size_append]; rfl
theorem belowN {B : Nat} {W w : World} (h : Below B W w) (n : Nat) : Below B W (w.drewN n) := ⟨h.os, h.tape, h.output, h.size, h.block⟩
theorem no_app (a : ByteArray) : noT ++ a = a := by apply ByteArray.ext; simp [noT, ByteArray.data_append]
theorem app_no (a : ByteArray) : a ++ noT = a := by apply ByteArray.ext; simp [noT, ByteArray.data_append]
theorem app_app (a b c : ByteArray) : a ++ b ++ c = a ++ (b ++ c) := by apply ByteArray.ext; simp [ByteArray.data_append]
theorem cls_end {s : St} {f b : Nat} (h : 256 ≤ b) : clsFrom s f b = noT := by
  cases f with
  | zero => rfl
  | succ f => unfold clsFrom; rw [if_pos h]
theorem cls_no {s : St} {f b : Nat} (h : b < 256) (hh : s.has b = false) : clsFrom s (f + 1) b = clsFrom s f (b + 1) := by rw [clsFrom, if_neg (by omega), if_pos hh]
theorem cls_one {s : St} {f b e : Nat} (h : b < 256) (hh : s.has b = true) (he : endOf s 256 b = e) (hb : ¬ b < e) : clsFrom s (f + 1) b = xT b ++ clsFrom s f (e + 1) := by
  rw [clsFrom, if_neg (by omega), if_neg (by rw [hh]; exact Bool.noConfusion), he, if_neg hb, no_app]
theorem cls_two {s : St} {f b e : Nat} (h : b < 256) (hh : s.has b = true) (he : endOf s 256 b = e) (hb : b < e) : clsFrom s (f + 1) b = xT b ++ (dxT e ++ clsFrom s f (e + 1)) := by
  rw [clsFrom, if_neg (by omega), if_neg (by rw [hh]; exact Bool.noConfusion), he, if_pos hb]

set_option maxRecDepth 100000 in
set_option maxHeartbeats 4000000 in
theorem refClassT (s : St) (hs : s.Ok) (w : World) : Calls Try.prog 18 #[.agg #[.int .u64 s.w0, .int .u64 s.w1, .int .u64 s.w2, .int .u64 s.w3]] w fun e w' => e = .returned (.string (clsT s)) ∧ Below w.heap.size w w' := by
  have hHas := fun b (hb : b < 256) v (hv : s.has b = v) W => refHasV s hs b hb v hv W
  have HHas := Lib.hid hHas
  have hz := hexT_size
  obtain ⟨H, hH⟩ : ∃ H : ByteArray, ⟨#[91]⟩ ++ clsFrom s 257 0 = H := ⟨_, rfl⟩
  have HH := Lib.hid hH
  clear hH hHas
  go_enter Try.func18, Try.ntmps18
  go_wp2_with fail
  go_loopw [3, 4] (fun o i wr => ∃ (b f : Nat) (x : ByteArray), b ≤ 256 ∧ x.size ≤ 1 + 9 * b ∧ 256 < b + f ∧ i = .int .i64 b ∧ o = .string x ∧ Hid (x ++ clsFrom s f b = H) ∧ Hid (SetAt wr w.heap.size 25 s) ∧ Hid (Below w.heap.size w wr)) (fun _ i _ => 256 - (intOf i).toNat)
  case atStart => exact ⟨0, 257, ⟨#[91]⟩, by omega, by decide, by omega, rfl, rfl, HH, Lib.hid (SetAt.new _ _ s), Lib.hid ((Below.refl _ _).alloc (Nat.le_refl _) _)⟩
  case round =>
    obtain ⟨b, f0, x, hb, hxs, hf, rfl, rfl, HX, HA, HB⟩ := hrel
    obtain ⟨f, rfl⟩ : ∃ f, f0 = f + 1 := ⟨f0 - 1, by omega⟩
    by_cases hlt : b < 256
    · have dlt : decide ((b : Int) < 256) = true := decide_eq_true (by omega)
      obtain ⟨x0, x1, x2, x3⟩ := HA.out.cells
      obtain ⟨v, hv⟩ : ∃ v, s.has b = v := ⟨_, rfl⟩
      have HV := Lib.hid hv
      clear hv
      rcases v with _ | _
      · have HX2 : Hid (x ++ clsFrom s f (b + 1) = H) := Lib.hid (by rw [← cls_no hlt HV.out]; exact HX.out)
        go_wp2_with fail
        refine (HHas.out b hlt false HV.out _).mono ?_
        rintro e w1 ⟨rfl, hb1⟩
        have HA1 := Lib.hid (SetAt.below HA.out hb1 HA.out.lt)
        have HB1 := Lib.hid (HB.out.trans (hb1.mono HB.out.size))
        clear hb1
        go_wp2_with fail
        exact ⟨⟨b + 1, f, x, by omega, by omega, by omega, by go_num, rfl, HX2, HA1, HB1⟩, by simp [intOf]; omega⟩
      · obtain ⟨E, hE⟩ : ∃ E, endOf s 256 b = E := ⟨_, rfl⟩
        have hEb := endOf_bounds s 256 b (by omega)
        rw [hE] at hEb
        have HE := Lib.hid hE
        clear hE
        go_wp2_with fail
        refine (HHas.out b hlt true HV.out _).mono ?_
        rintro e w1 ⟨rfl, hb1⟩
        have HA1 := Lib.hid (SetAt.below HA.out hb1 HA.out.lt)
        have HB1 := Lib.hid (HB.out.trans (hb1.mono HB.out.size))
        clear hb1 x0 x1 x2 x3
        go_wp2_with fail
        go_loopw [5] (fun i wr => ∃ (e g : Nat), b ≤ e ∧ e ≤ 255 ∧ 256 ≤ e + g ∧ i = .int .i64 e ∧ Hid (endOf s g e = E) ∧ Hid (SetAt wr w.heap.size 25 s) ∧ Hid (Below w.heap.size w wr)) (fun i _ => 256 - (intOf i).toNat)
        case atStart => exact ⟨b, 256, by omega, by omega, by omega, rfl, HE, HA1, HB1⟩
        case round =>
          obtain ⟨e, g0, hbe, he, hg, rfl, HG, HA2, HB2⟩ := hrel
          obtain ⟨x0, x1, x2, x3⟩ := HA2.out.cells
          by_cases he5 : e < 255
          · have d1 : decide ((e : Int) < 255) = true := decide_eq_true (by omega)
            obtain ⟨g, rfl⟩ : ∃ g, g0 = g + 1 := ⟨g0 - 1, by omega⟩
            obtain ⟨v, hv⟩ : ∃ v, s.has (e + 1) = v := ⟨_, rfl⟩
            have HW := Lib.hid hv
            clear hv
            rcases v with _ | _
            · have HE2 : Hid (endOf s 256 b = e) := Lib.hid (by rw [HE.out, ← HG.out]; rw [endOf_stop]; rintro ⟨_, q⟩; rw [HW.out] at q; cases q)
              by_cases hbE : b < e
              · have d2 : decide ((b : Int) < (e : Int)) = true := decide_eq_true (by omega)
                have HX2 : Hid (x ++ xT b ++ dxT e ++ clsFrom s f (e + 1) = H) := Lib.hid (by rw [app_app, app_app, ← cls_two hlt HV.out HE2.out hbE]; exact HX.out)
                go_wp2_with fail
                refine (HHas.out (e + 1) (by omega) false HW.out _).mono ?_
                rintro e' w2 ⟨rfl, hb2⟩
                have HA3 := Lib.hid (SetAt.below HA2.out hb2 HA2.out.lt)
                have HB3 := Lib.hid (HB2.out.trans (hb2.mono HB2.out.size))
                clear hb2
                go_wp2_with fail
                refine (refHex b hlt _).mono ?_
                rintro e' w3 ⟨rfl, n3, rfl⟩
                go_wp2_with fail
                refine (refHex e (by omega) _).mono ?_
                rintro e' w4 ⟨rfl, n4, rfl⟩
                go_wp2_with fail
                exact ⟨⟨e + 1, f, x ++ xT b ++ dxT e, by omega, by rw [ByteArray.size_append, ByteArray.size_append, xT_size, dxT_size]; omega, by omega, by go_num, rfl, HX2, HA3, Lib.hid (belowN HB3.out _)⟩, by simp [intOf]; omega⟩
              · have d2 : decide ((b : Int) < (e : Int)) = false := decide_eq_false (by omega)
                have HX2 : Hid (x ++ xT b ++ clsFrom s f (e + 1) = H) := Lib.hid (by rw [app_app, ← cls_one hlt HV.out HE2.out hbE]; exact HX.out)
                go_wp2_with fail
                refine (HHas.out (e + 1) (by omega) false HW.out _).mono ?_
                rintro e' w2 ⟨rfl, hb2⟩
                have HA3 := Lib.hid (SetAt.below HA2.out hb2 HA2.out.lt)
                have HB3 := Lib.hid (HB2.out.trans (hb2.mono HB2.out.size))
                clear hb2
                go_wp2_with fail
                refine (refHex b hlt _).mono ?_
                rintro e' w3 ⟨rfl, n3, rfl⟩
                go_wp2_with fail
                exact ⟨⟨e + 1, f, x ++ xT b, by omega, by rw [ByteArray.size_append, xT_size]; omega, by omega, by go_num, rfl, HX2, HA3, Lib.hid (belowN HB3.out _)⟩, by simp [intOf]; omega⟩
            · have HG2 : Hid (endOf s g (e + 1) = E) := Lib.hid (by rw [← endOf_next he5 HW.out]; exact HG.out)
              go_wp2_with fail
              refine (HHas.out (e + 1) (by omega) true HW.out _).mono ?_
              rintro e' w2 ⟨rfl, hb2⟩
              have HA3 := Lib.hid (SetAt.below HA2.out hb2 HA2.out.lt)
              have HB3 := Lib.hid (HB2.out.trans (hb2.mono HB2.out.size))
              clear hb2
              go_wp2_with fail
              exact ⟨⟨e + 1, g, by omega, by omega, by omega, by go_num, HG2, HA3, HB3⟩, by simp [intOf]; omega⟩
          · have d1 : decide ((e : Int) < 255) = false := decide_eq_false (by omega)
            have HE2 : Hid (endOf s 256 b = e) := Lib.hid (by rw [HE.out, ← HG.out]; cases g0 with | zero => rfl | succ g => rw [endOf_stop]; rintro ⟨q, _⟩; exact he5 q)
            by_cases hbE : b < e
            · have d2 : decide ((b : Int) < (e : Int)) = true := decide_eq_true (by omega)
              have HX2 : Hid (x ++ xT b ++ dxT e ++ clsFrom s f (e + 1) = H) := Lib.hid (by rw [app_app, app_app, ← cls_two hlt HV.out HE2.out hbE]; exact HX.out)
              go_wp2_with fail
              refine (refHex b hlt _).mono ?_
              rintro e' w3 ⟨rfl, n3, rfl⟩
              go_wp2_with fail
              refine (refHex e (by omega) _).mono ?_
              rintro e' w4 ⟨rfl, n4, rfl⟩
              go_wp2_with fail
              exact ⟨⟨e + 1, f, x ++ xT b ++ dxT e, by omega, by rw [ByteArray.size_append, ByteArray.size_append, xT_size, dxT_size]; omega, by omega, by go_num, rfl, HX2, HA2, Lib.hid (belowN HB2.out _)⟩, by simp [intOf]; omega⟩
            · have d2 : decide ((b : Int) < (e : Int)) = false := decide_eq_false (by omega)
              have HX2 : Hid (x ++ xT b ++ clsFrom s f (e + 1) = H) := Lib.hid (by rw [app_app, ← cls_one hlt HV.out HE2.out hbE]; exact HX.out)
              go_wp2_with fail
              refine (refHex b hlt _).mono ?_
              rintro e' w3 ⟨rfl, n3, rfl⟩
              go_wp2_with fail
              exact ⟨⟨e + 1, f, x ++ xT b, by omega, by rw [ByteArray.size_append, xT_size]; omega, by omega, by go_num, rfl, HX2, HA2, Lib.hid (belowN HB2.out _)⟩, by simp [intOf]; omega⟩
    · obtain rfl : b = 256 := by omega
      have HX2 : Hid (x ++ ⟨#[93]⟩ = clsT s) := Lib.hid (by unfold clsT; rw [HH.out, ← HX.out, cls_end (Nat.le_refl _), app_no])
      go_wp2_with fail
      go_ret
      exact ⟨by rw [← HX2.out]; rfl, HB.out⟩

end Go.Proofs.Ytibmcdgnponpmaa

/- The text of a plain pattern. No program is walked here. -/
namespace Go.Proofs.Ytibmcdgnponpmaa
open Go.RowKit
set_option linter.unusedSimpArgs false
set_option linter.unusedVariables false

def brkT (x : ByteArray) : ByteArray := ⟨#[40]⟩ ++ x ++ ⟨#[41]⟩
def tailT (sep : ByteArray) : List ByteArray → ByteArray
  | [] => noT
  | x :: r => sep ++ brkT x ++ tailT sep r
/-- Texts in brackets, a sign between. -/
def rowT (sep : ByteArray) : List ByteArray → ByteArray
  | [] => noT
  | x :: r => brkT x ++ tailT sep r
def sepT (kind : Int) : ByteArray := if kind = 4 then ⟨#[124]⟩ else if kind = 5 then ⟨#[38]⟩ else noT
def preT (kind : Int) : ByteArray := if kind = 6 then ⟨#[126]⟩ else noT
def lookT (kind : Int) (neg : Bool) : ByteArray := ⟨#[40, 63]⟩ ++ (if kind = 9 then ⟨#[60]⟩ else noT) ++ (if neg = true then ⟨#[33]⟩ else ⟨#[61]⟩)
def boundsT (lo hi : Int) : ByteArray := ⟨#[123]⟩ ++ digT lo.toNat ++ ⟨#[44]⟩ ++ (if 0 ≤ hi then digT hi.toNat else noT) ++ ⟨#[125]⟩
def textS : Nat → Tr → ByteArray
  | 0, _ => noT
  | k + 1, t =>
    if t.kind = 1 then ⟨#[40, 41]⟩
    else if t.kind = 2 then clsT t.set
    else if t.kind = 10 then ⟨#[94]⟩
    else if t.kind = 11 then ⟨#[36]⟩
    else if t.kind = 8 ∨ t.kind = 9 then lookT t.kind t.neg ++ (t.parts.map (textS k)).headD noT ++ ⟨#[41]⟩
    else preT t.kind ++ rowT (sepT t.kind) (t.parts.map (textS k)) ++ (if t.kind = 7 then boundsT t.lo t.hi else noT)
theorem tailT_app (sep : ByteArray) : ∀ l m, tailT sep (l ++ m) = tailT sep l ++ tailT sep m
  | [], m => (no_app _).symm
  | x :: r, m => by rw [List.cons_append, tailT, tailT, tailT_app sep r m, app_app, app_app, app_app]
theorem rowT_snoc (sep : ByteArray) (l : List ByteArray) (x : ByteArray) (h : l ≠ []) : rowT sep (l ++ [x]) = rowT sep l ++ sep ++ brkT x := by
  match l, h with
  | y :: r, _ => rw [List.cons_append, rowT, rowT, tailT_app, tailT, tailT, app_no]; simp only [app_app]
theorem rowT_one (sep x : ByteArray) : rowT sep [x] = brkT x := by rw [rowT, tailT, app_no]
theorem size_app (a b : ByteArray) : (a ++ b).size = a.size + b.size := ByteArray.size_append
theorem rowT_le (sep : ByteArray) (l m : List ByteArray) : (rowT sep l).size ≤ (rowT sep (l ++ m)).size := by
  match l with
  | [] => exact Nat.zero_le _
  | x :: r => rw [List.cons_append, rowT, rowT, tailT_app, size_app, size_app, size_app]; omega
theorem brkT_size (x : ByteArray) : (brkT x).size = x.size + 2 := by unfold brkT; rw [size_app, size_app]; show 1 + x.size + 1 = _; omega
theorem tailT_mem (sep : ByteArray) {x : ByteArray} : ∀ {l : List ByteArray}, x ∈ l → x.size ≤ (tailT sep l).size
  | y :: r, h => by
    rw [tailT, size_app, size_app, brkT_size]
    rcases List.mem_cons.1 h with rfl | h
    · omega
    · have := tailT_mem sep h; omega
theorem rowT_mem (sep : ByteArray) {x : ByteArray} {l : List ByteArray} (h : x ∈ l) : x.size ≤ (rowT sep l).size := by
  match l, h with
  | y :: r, h =>
    rw [rowT, size_app, brkT_size]
    rcases List.mem_cons.1 h with rfl | h
    · omega
    · have := tailT_mem sep h; omega
theorem clsFrom_size (s : St) : ∀ (f b : Nat), (clsFrom s f b).size ≤ 9 * (256 - b)
  | 0, b => Nat.zero_le _
  | f + 1, b => by
    unfold clsFrom
    split
    · exact Nat.zero_le _
    split
    · have := clsFrom_size s f (b + 1); omega
    · have h1 := endOf_bounds s 256 b (by omega)
      have h2 := clsFrom_size s f (endOf s 256 b + 1)
      have h0 : noT.size = 0 := rfl
      rw [size_app, size_app, xT_size]
      split
      · rw [dxT_size]; omega
      · omega
theorem clsT_size (s : St) : (clsT s).size ≤ 3000 := by
  have := clsFrom_size s 257 0
  unfold clsT; rw [size_app, size_app]; show 1 + _ + 1 ≤ _; omega
theorem digT_size {n : Nat} : (digT n).size ≤ 2 := by
  unfold digT digL
  split <;> (show _ ≤ 2; first | exact Nat.le_refl _ | exact Nat.le_succ _)
/-- Which patterns are written: of the kinds 1 to 11, with as many parts as they may have. -/
def wrtS : Nat → Tr → Prop
  | 0, _ => True
  | k + 1, t => (1 ≤ t.kind ∧ t.kind ≤ 11) ∧ (t.kind = 6 ∨ t.kind = 7 ∨ t.kind = 8 ∨ t.kind = 9 → t.parts.length = 1) ∧ (t.kind = 7 → timesF t) ∧ ∀ p ∈ t.parts, wrtS k p
/-- What the reference writes: it stops above 30000 bytes. -/
def TextR (k : Nat) (t : Tr) (x : ByteArray) : Prop := x = textS k t ∨ (30000 < x.size ∧ 30000 < (textS k t).size)
section
variable {k : Nat} {t : Tr}
theorem text_1 (h : t.kind = 1) : textS (k + 1) t = ⟨#[40, 41]⟩ := by rw [textS, if_pos h]
theorem text_2 (h : t.kind = 2) : textS (k + 1) t = clsT t.set := by rw [textS, if_neg (by omega), if_pos h]
theorem text_10 (h : t.kind = 10) : textS (k + 1) t = ⟨#[94]⟩ := by rw [textS, if_neg (by omega), if_neg (by omega), if_pos h]
theorem text_11 (h : t.kind = 11) : textS (k + 1) t = ⟨#[36]⟩ := by rw [textS, if_neg (by omega), if_neg (by omega), if_neg (by omega), if_pos h]
theorem text_look (h : t.kind = 8 ∨ t.kind = 9) (hl : 0 < t.parts.length) : textS (k + 1) t = lookT t.kind t.neg ++ textS k t.parts[0] ++ ⟨#[41]⟩ := by
  rw [textS, if_neg (by omega), if_neg (by omega), if_neg (by omega), if_neg (by omega), if_pos h]
  obtain ⟨a, r, e⟩ : ∃ a r, t.parts = a :: r := by cases hp : t.parts with | nil => rw [hp] at hl; exact absurd hl (Nat.lt_irrefl 0) | cons a r => exact ⟨a, r, rfl⟩
  simp only [e, List.map_cons, List.headD_cons, List.getElem_cons_zero]
theorem text_row (h : 3 ≤ t.kind ∧ t.kind ≤ 7) : textS (k + 1) t = preT t.kind ++ rowT (sepT t.kind) (t.parts.map (textS k)) ++ (if t.kind = 7 then boundsT t.lo t.hi else noT) := by
  rw [textS, if_neg (by omega), if_neg (by omega), if_neg (by omega), if_neg (by omega), if_neg (by omega)]
/-- What is written of the first j parts. -/
def rowTo (k : Nat) (t : Tr) (j : Nat) : ByteArray := preT t.kind ++ rowT (sepT t.kind) ((t.parts.take j).map (textS k))
theorem rowTo_zero : rowTo k t 0 = preT t.kind := by unfold rowTo; rw [List.take_zero]; exact app_no _
theorem rowTo_one (h : 0 < t.parts.length) : rowTo k t (0 + 1) = preT t.kind ++ brkT (textS k t.parts[0]) := by
  unfold rowTo; rw [List.take_succ_eq_append_getElem h, List.take_zero, List.nil_append, List.map_singleton, rowT_one]
theorem rowTo_succ {j : Nat} (h : j < t.parts.length) (h0 : 0 < j) : rowTo k t (j + 1) = rowTo k t j ++ sepT t.kind ++ brkT (textS k t.parts[j]) := by
  unfold rowTo; rw [List.take_succ_eq_append_getElem h, List.map_append, List.map_singleton, rowT_snoc _ _ _ (by
    intro e
    have := congrArg List.length e
    rw [List.length_map, List.length_take, List.length_nil] at this
    omega)]
  simp only [app_app]
theorem rowTo_all (h : 3 ≤ t.kind ∧ t.kind ≤ 7) : rowTo k t t.parts.length ++ (if t.kind = 7 then boundsT t.lo t.hi else noT) = textS (k + 1) t := by
  rw [text_row h]; unfold rowTo; rw [List.take_length]
theorem rowTo_le (h : 3 ≤ t.kind ∧ t.kind ≤ 7) (j : Nat) : (rowTo k t j).size ≤ (textS (k + 1) t).size := by
  rw [text_row h]
  have := rowT_le (sepT t.kind) ((t.parts.take j).map (textS k)) ((t.parts.drop j).map (textS k))
  rw [← List.map_append, List.take_append_drop] at this
  unfold rowTo
  rw [size_app, size_app, size_app]; omega
theorem part_le (h : 3 ≤ t.kind ∧ t.kind ≤ 7) {j : Nat} (hj : j < t.parts.length) : (textS k t.parts[j]).size ≤ (textS (k + 1) t).size := by
  have := rowT_mem (sepT t.kind) (x := textS k t.parts[j]) (l := t.parts.map (textS k)) (List.mem_map.2 ⟨_, List.getElem_mem hj, rfl⟩)
  rw [text_row h, size_app, size_app]; omega
end
/-- One more part is written. -/
theorem text_more {k j : Nat} {t : Tr} {x sep y : ByteArray} (h : 3 ≤ t.kind ∧ t.kind ≤ 7) (hj : j < t.parts.length) (hx : x = rowTo k t j) (hsep : sep = if 0 < j then sepT t.kind else noT) (hy : TextR k t.parts[j] y) :
    ((x ++ sep ++ brkT y).size ≤ 30000 → x ++ sep ++ brkT y = rowTo k t (j + 1)) ∧ (30000 < (x ++ sep ++ brkT y).size → TextR (k + 1) t (x ++ sep ++ brkT y)) := by
  have key : y = textS k t.parts[j] → x ++ sep ++ brkT y = rowTo k t (j + 1) := fun e => by
    subst e
    by_cases h0 : 0 < j
    · rw [rowTo_succ hj h0, hx, hsep, if_pos h0]
    · obtain rfl : j = 0 := by omega
      rw [rowTo_one hj, hx, hsep, if_neg h0, rowTo_zero, app_no]
  have hs : y.size ≤ (x ++ sep ++ brkT y).size := by rw [size_app, brkT_size]; omega
  rcases hy with hy | ⟨h1, h2⟩
  · refine ⟨fun _ => key hy, fun hb => Or.inr ⟨hb, ?_⟩⟩
    rw [key hy] at hb
    have := rowTo_le (k := k) h (j + 1)
    omega
  · refine ⟨fun q => absurd q (by omega), fun hb => Or.inr ⟨hb, ?_⟩⟩
    have := part_le (k := k) h hj
    omega
theorem text_look_r {k : Nat} {t : Tr} {y : ByteArray} (h : t.kind = 8 ∨ t.kind = 9) (hl : 0 < t.parts.length) (hy : TextR k t.parts[0] y) : TextR (k + 1) t (lookT t.kind t.neg ++ y ++ ⟨#[41]⟩) := by
  rcases hy with hy | ⟨h1, h2⟩
  · left; rw [text_look h hl, hy]
  · right
    rw [text_look h hl, size_app, size_app, size_app, size_app]
    omega

end Go.Proofs.Ytibmcdgnponpmaa
