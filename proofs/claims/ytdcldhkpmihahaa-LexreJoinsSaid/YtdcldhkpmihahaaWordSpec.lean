/- What a word is; what the program's bytesWord and open answer. -/
import Derived.Test.YtdcldhkpmihahaaLexBraces
import Derived.Test.YtdcldhkpmihahaaLexClass
namespace Go.Proofs.Ytdcldhkpmihahaa
open Go.RowKit
set_option linter.unusedSimpArgs false
set_option linter.unusedVariables false

def kindW (k : Int) : Wd := ⟨k, emptyC, { data := #[] }, 0, 0⟩
def setW (s : St) : Wd := ⟨1, s, { data := #[] }, 0, 0⟩
/-- What begins with a ( at a place. -/
def openS (s : ByteArray) (p : Nat) : Wd × Int :=
  if preS s p [40, 63, 61] = true then (kindW 12, 3) else if preS s p [40, 63, 33] = true then (kindW 13, 3)
  else if preS s p [40, 63, 60, 61] = true then (kindW 14, 4) else if preS s p [40, 63, 60, 33] = true then (kindW 15, 4) else (kindW 2, 1)
/-- All but the line feed, below k. -/
def dotTo : Nat → St
  | 0 => emptyC
  | k + 1 => if k = 10 then dotTo k else (dotTo k).put k
def ownW : ByteArray := { data := #[93, 125] }
/-- The word at a place, and how many bytes it takes; 0: none stands there. -/
def wordS (s : ByteArray) (p : Nat) : Wd × Int :=
  if bt s p = 40 then openS s p
  else if bt s p = 91 then (setW (classS s p).1, (classS s p).2)
  else if bt s p = 123 then bracesS s p
  else if 0 < signsS (bt s p) then (kindW (signsS (bt s p)), 1)
  else if bt s p = 46 then (setW (dotTo 256), 1)
  else (setW (St.zero.put (charS s p ownW).1.toNat), (charS s p ownW).2)
theorem pre_drop (s : ByteArray) (p : Nat) (hp : p ≤ s.size) (q : List UInt8) : ∀ i, preS (s.extract p s.size) i q = preS s (p + i) q := by
  induction q with
  | nil => intro i; rfl
  | cons a q ih =>
    intro i
    unfold preS
    rw [ih (i + 1), bt_drop s p i hp, drop_size, show p + (i + 1) = p + i + 1 from rfl]
    have e : (i < s.size - p ∧ bt s (p + i) = a.toNat) = (p + i < s.size ∧ bt s (p + i) = a.toNat) := by rw [eq_iff_iff]; omega
    simp only [e]
theorem txt_wd {x : Wd} {n : Int} {p : Wd × Int} (h : p = (x, n)) : Ending.returned (.tuple #[.agg (wdCells x 0), .int .i64 n]) = .returned (.tuple #[.agg (wdCells p.1 0), .int .i64 p.2]) := by rw [h]
set_option maxRecDepth 100000 in
set_option maxHeartbeats 1000000 in
theorem lexBytes (c : St) (n : Int) (w : World) :
    Calls Try.prog 13 #[.agg #[.int .u64 c.w0, .int .u64 c.w1, .int .u64 c.w2, .int .u64 c.w3], .int .i64 n] w fun e w' => e = .returned (.tuple #[.agg (wdCells (setW c) 0), .int .i64 n]) ∧ Below w.heap.size w w' := by
  go_enter Try.func13, Try.ntmps13
  go_wp2_with fail
  refine bodyPost_ret (v := .tuple #[.agg (wdCells (setW c) 0), .int .i64 n]) (by simp [results, Try.results13, go_sem, wdCells, setW]) rfl ⟨rfl, ?_⟩
  repeat (first | exact Below.refl _ _ | refine Below.drew ?_ | refine Below.alloc ?_ (by simp; try omega) _)
set_option maxRecDepth 100000 in
set_option maxHeartbeats 4000000 in
theorem lexOpen (s : ByteArray) (w : World) :
    Calls Try.prog 18 #[.string s] w fun e w' => e = .returned (.tuple #[.agg (wdCells (openS s 0).1 0), .int .i64 (openS s 0).2]) ∧ Below w.heap.size w w' := by
  obtain ⟨v0, hv0⟩ : ∃ v, preS s 0 [40, 63, 61] = v := ⟨_, rfl⟩
  have H0 := Lib.hid hv0
  clear hv0
  rcases v0 with _ | _
  · obtain ⟨v1, hv1⟩ : ∃ v, preS s 0 [40, 63, 33] = v := ⟨_, rfl⟩
    have H1 := Lib.hid hv1
    clear hv1
    rcases v1 with _ | _
    · obtain ⟨v2, hv2⟩ : ∃ v, preS s 0 [40, 63, 60, 61] = v := ⟨_, rfl⟩
      have H2 := Lib.hid hv2
      clear hv2
      rcases v2 with _ | _
      · obtain ⟨v3, hv3⟩ : ∃ v, preS s 0 [40, 63, 60, 33] = v := ⟨_, rfl⟩
        have H3 := Lib.hid hv3
        clear hv3
        rcases v3 with _ | _
        · have HV : Hid (openS s 0 = (kindW 2, 1)) := Lib.hid (by unfold openS; rw [if_neg (by rw [H0.out]; exact Bool.false_ne_true)]; rw [if_neg (by rw [H1.out]; exact Bool.false_ne_true)]; rw [if_neg (by rw [H2.out]; exact Bool.false_ne_true)]; rw [if_neg (by rw [H3.out]; exact Bool.false_ne_true)])
          go_enter Try.func18, Try.ntmps18
          go_wp2_with fail
          refine (textPrefixV _ _ false H0.out _).mono ?_
          rintro e w1 ⟨rfl, rfl⟩
          go_wp2_with fail
          refine (textPrefixV _ _ false H1.out _).mono ?_
          rintro e w1 ⟨rfl, rfl⟩
          go_wp2_with fail
          refine (textPrefixV _ _ false H2.out _).mono ?_
          rintro e w1 ⟨rfl, rfl⟩
          go_wp2_with fail
          refine (textPrefixV _ _ false H3.out _).mono ?_
          rintro e w1 ⟨rfl, rfl⟩
          go_wp2_with fail
          refine bodyPost_ret (v := .tuple #[.agg (wdCells (kindW 2) 0), .int .i64 1]) (by simp [results, Try.results18, go_sem, wdCells, kindW, emptyC]) rfl ⟨txt_wd HV.out, ?_⟩
          repeat (first | exact Below.refl _ _ | refine Below.drew ?_ | refine Below.alloc ?_ (by simp; try omega) _)
        · have HV : Hid (openS s 0 = (kindW 15, 4)) := Lib.hid (by unfold openS; rw [if_neg (by rw [H0.out]; exact Bool.false_ne_true)]; rw [if_neg (by rw [H1.out]; exact Bool.false_ne_true)]; rw [if_neg (by rw [H2.out]; exact Bool.false_ne_true)]; rw [if_pos H3.out])
          go_enter Try.func18, Try.ntmps18
          go_wp2_with fail
          refine (textPrefixV _ _ false H0.out _).mono ?_
          rintro e w1 ⟨rfl, rfl⟩
          go_wp2_with fail
          refine (textPrefixV _ _ false H1.out _).mono ?_
          rintro e w1 ⟨rfl, rfl⟩
          go_wp2_with fail
          refine (textPrefixV _ _ false H2.out _).mono ?_
          rintro e w1 ⟨rfl, rfl⟩
          go_wp2_with fail
          refine (textPrefixV _ _ true H3.out _).mono ?_
          rintro e w1 ⟨rfl, rfl⟩
          go_wp2_with fail
          refine bodyPost_ret (v := .tuple #[.agg (wdCells (kindW 15) 0), .int .i64 4]) (by simp [results, Try.results18, go_sem, wdCells, kindW, emptyC]) rfl ⟨txt_wd HV.out, ?_⟩
          repeat (first | exact Below.refl _ _ | refine Below.drew ?_ | refine Below.alloc ?_ (by simp; try omega) _)
      · have HV : Hid (openS s 0 = (kindW 14, 4)) := Lib.hid (by unfold openS; rw [if_neg (by rw [H0.out]; exact Bool.false_ne_true)]; rw [if_neg (by rw [H1.out]; exact Bool.false_ne_true)]; rw [if_pos H2.out])
        go_enter Try.func18, Try.ntmps18
        go_wp2_with fail
        refine (textPrefixV _ _ false H0.out _).mono ?_
        rintro e w1 ⟨rfl, rfl⟩
        go_wp2_with fail
        refine (textPrefixV _ _ false H1.out _).mono ?_
        rintro e w1 ⟨rfl, rfl⟩
        go_wp2_with fail
        refine (textPrefixV _ _ true H2.out _).mono ?_
        rintro e w1 ⟨rfl, rfl⟩
        go_wp2_with fail
        refine bodyPost_ret (v := .tuple #[.agg (wdCells (kindW 14) 0), .int .i64 4]) (by simp [results, Try.results18, go_sem, wdCells, kindW, emptyC]) rfl ⟨txt_wd HV.out, ?_⟩
        repeat (first | exact Below.refl _ _ | refine Below.drew ?_ | refine Below.alloc ?_ (by simp; try omega) _)
    · have HV : Hid (openS s 0 = (kindW 13, 3)) := Lib.hid (by unfold openS; rw [if_neg (by rw [H0.out]; exact Bool.false_ne_true)]; rw [if_pos H1.out])
      go_enter Try.func18, Try.ntmps18
      go_wp2_with fail
      refine (textPrefixV _ _ false H0.out _).mono ?_
      rintro e w1 ⟨rfl, rfl⟩
      go_wp2_with fail
      refine (textPrefixV _ _ true H1.out _).mono ?_
      rintro e w1 ⟨rfl, rfl⟩
      go_wp2_with fail
      refine bodyPost_ret (v := .tuple #[.agg (wdCells (kindW 13) 0), .int .i64 3]) (by simp [results, Try.results18, go_sem, wdCells, kindW, emptyC]) rfl ⟨txt_wd HV.out, ?_⟩
      repeat (first | exact Below.refl _ _ | refine Below.drew ?_ | refine Below.alloc ?_ (by simp; try omega) _)
  · have HV : Hid (openS s 0 = (kindW 12, 3)) := Lib.hid (by unfold openS; rw [if_pos H0.out])
    go_enter Try.func18, Try.ntmps18
    go_wp2_with fail
    refine (textPrefixV _ _ true H0.out _).mono ?_
    rintro e w1 ⟨rfl, rfl⟩
    go_wp2_with fail
    refine bodyPost_ret (v := .tuple #[.agg (wdCells (kindW 12) 0), .int .i64 3]) (by simp [results, Try.results18, go_sem, wdCells, kindW, emptyC]) rfl ⟨txt_wd HV.out, ?_⟩
    repeat (first | exact Below.refl _ _ | refine Below.drew ?_ | refine Below.alloc ?_ (by simp; try omega) _)
end Go.Proofs.Ytdcldhkpmihahaa
