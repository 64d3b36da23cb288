/- The text of a plain pattern. No program is walked here. -/
import Derived.Test.YtibmcdgnponpmaaDoorProg
import Derived.Test.YtibmcdgnponpmaaDoorMa
import Derived.Test.YtibmcdgnponpmaaDoorRefDigits
import Derived.Test.YtibmcdgnponpmaaDoorRefClassT
namespace Go.Proofs.YtibmcdgnponpmaaDoor
open Go.RowKit
set_option linter.unusedSimpArgs false
set_option linter.unusedVariables false

def brkT (x : ByteArray) : ByteArray := ⟨#[40]⟩ ++ x ++ ⟨#[41]⟩
def tailT (sep : ByteArray) : List ByteArray → ByteArray
  | [] => noT
  | x :: r => sep ++ brkT x ++ tailT sep r
/-- Texts in brackets, a sign between. -/
def rowT (sep : ByteArray) : List ByteArray → ByteArray
  | [] => noT
  | x :: r => brkT x ++ tailT sep r
def sepT (kind : Int) : ByteArray := if kind = 4 then ⟨#[124]⟩ else if kind = 5 then ⟨#[38]⟩ else noT
def preT (kind : Int) : ByteArray := if kind = 6 then ⟨#[126]⟩ else noT
def lookT (kind : Int) (neg : Bool) : ByteArray := ⟨#[40, 63]⟩ ++ (if kind = 9 then ⟨#[60]⟩ else noT) ++ (if neg = true then ⟨#[33]⟩ else ⟨#[61]⟩)
def boundsT (lo hi : Int) : ByteArray := ⟨#[123]⟩ ++ digT lo.toNat ++ ⟨#[44]⟩ ++ (if 0 ≤ hi then digT hi.toNat else noT) ++ ⟨#[125]⟩
def textS : Nat → Tr → ByteArray
  | 0, _ => noT
  | k + 1, t =>
    if t.kind = 1 then ⟨#[40, 41]⟩
    else if t.kind = 2 then clsT t.set
    else if t.kind = 10 then ⟨#[94]⟩
    else if t.kind = 11 then ⟨#[36]⟩
    else if t.kind = 8 ∨ t.kind = 9 then lookT t.kind t.neg ++ (t.parts.map (textS k)).headD noT ++ ⟨#[41]⟩
    else preT t.kind ++ rowT (sepT t.kind) (t.parts.map (textS k)) ++ (if t.kind = 7 then boundsT t.lo t.hi else noT)
theorem tailT_app (sep : ByteArray) : ∀ l m, tailT sep (l ++ m) = tailT sep l ++ tailT sep m
  | [], m => (no_app _).symm
  | x :: r, m => by rw [List.cons_append, tailT, tailT, tailT_app sep r m, app_app, app_app, app_app]
theorem rowT_snoc (sep : ByteArray) (l : List ByteArray) (x : ByteArray) (h : l ≠ []) : rowT sep (l ++ [x]) = rowT sep l ++ sep ++ brkT x := by
  match l, h with
  | y :: r, _ => rw [List.cons_append, rowT, rowT, tailT_app, tailT, tailT, app_no]; simp only [app_app]
theorem rowT_one (sep x : ByteArray) : rowT sep [x] = brkT x := by rw [rowT, tailT, app_no]
theorem size_app (a b : ByteArray) : (a ++ b).size = a.size + b.size := ByteArray.size_append
theorem rowT_le (sep : ByteArray) (l m : List ByteArray) : (rowT sep l).size ≤ (rowT sep (l ++ m)).size := by
  match l with
  | [] => exact Nat.zero_le _
  | x :: r => rw [List.cons_append, rowT, rowT, tailT_app, size_app, size_app, size_app]; omega
theorem brkT_size (x : ByteArray) : (brkT x).size = x.size + 2 := by unfold brkT; rw [size_app, size_app]; show 1 + x.size + 1 = _; omega
theorem tailT_mem (sep : ByteArray) {x : ByteArray} : ∀ {l : List ByteArray}, x ∈ l → x.size ≤ (tailT sep l).size
  | y :: r, h => by
    rw [tailT, size_app, size_app, brkT_size]
    rcases List.mem_cons.1 h with rfl | h
    · omega
    · have := tailT_mem sep h; omega
theorem rowT_mem (sep : ByteArray) {x : ByteArray} {l : List ByteArray} (h : x ∈ l) : x.size ≤ (rowT sep l).size := by
  match l, h with
  | y :: r, h =>
    rw [rowT, size_app, brkT_size]
    rcases List.mem_cons.1 h with rfl | h
    · omega
    · have := tailT_mem sep h; omega
theorem clsFrom_size (s : St) : ∀ (f b : Nat), (clsFrom s f b).size ≤ 9 * (256 - b)
  | 0, b => Nat.zero_le _
  | f + 1, b => by
    unfold clsFrom
    split
    · exact Nat.zero_le _
    split
    · have := clsFrom_size s f (b + 1); omega
    · have h1 := endOf_bounds s 256 b (by omega)
      have h2 := clsFrom_size s f (endOf s 256 b + 1)
      have h0 : noT.size = 0 := rfl
      rw [size_app, size_app, xT_size]
      split
      · rw [dxT_size]; omega
      · omega
theorem clsT_size (s : St) : (clsT s).size ≤ 3000 := by
  have := clsFrom_size s 257 0
  unfold clsT; rw [size_app, size_app]; show 1 + _ + 1 ≤ _; omega
theorem digT_size {n : Nat} : (digT n).size ≤ 2 := by
  unfold digT digL
  split <;> (show _ ≤ 2; first | exact Nat.le_refl _ | exact Nat.le_succ _)
/-- Which patterns are written: of the kinds 1 to 11, with as many parts as they may have. -/
def wrtS : Nat → Tr → Prop
  | 0, _ => True
  | k + 1, t => (1 ≤ t.kind ∧ t.kind ≤ 11) ∧ (t.kind = 6 ∨ t.kind = 7 ∨ t.kind = 8 ∨ t.kind = 9 → t.parts.length = 1) ∧ (t.kind = 7 → timesF t) ∧ ∀ p ∈ t.parts, wrtS k p
/-- What the reference writes: it stops above 30000 bytes. -/
def TextR (k : Nat) (t : Tr) (x : ByteArray) : Prop := x = textS k t ∨ (30000 < x.size ∧ 30000 < (textS k t).size)
section
variable {k : Nat} {t : Tr}
theorem text_1 (h : t.kind = 1) : textS (k + 1) t = ⟨#[40, 41]⟩ := by rw [textS, if_pos h]
theorem text_2 (h : t.kind = 2) : textS (k + 1) t = clsT t.set := by rw [textS, if_neg (by omega), if_pos h]
theorem text_10 (h : t.kind = 10) : textS (k + 1) t = ⟨#[94]⟩ := by rw [textS, if_neg (by omega), if_neg (by omega), if_pos h]
theorem text_11 (h : t.kind = 11) : textS (k + 1) t = ⟨#[36]⟩ := by rw [textS, if_neg (by omega), if_neg (by omega), if_neg (by omega), if_pos h]
theorem text_look (h : t.kind = 8 ∨ t.kind = 9) (hl : 0 < t.parts.length) : textS (k + 1) t = lookT t.kind t.neg ++ textS k t.parts[0] ++ ⟨#[41]⟩ := by
  rw [textS, if_neg (by omega), if_neg (by omega), if_neg (by omega), if_neg (by omega), if_pos h]
  obtain ⟨a, r, e⟩ : ∃ a r, t.parts = a :: r := by cases hp : t.parts with | nil => rw [hp] at hl; exact absurd hl (Nat.lt_irrefl 0) | cons a r => exact ⟨a, r, rfl⟩
  simp only [e, List.map_cons, List.headD_cons, List.getElem_cons_zero]
theorem text_row (h : 3 ≤ t.kind ∧ t.kind ≤ 7) : textS (k + 1) t = preT t.kind ++ rowT (sepT t.kind) (t.parts.map (textS k)) ++ (if t.kind = 7 then boundsT t.lo t.hi else noT) := by
  rw [textS, if_neg (by omega), if_neg (by omega), if_neg (by omega), if_neg (by omega), if_neg (by omega)]
/-- What is written of the first j parts. -/
def rowTo (k : Nat) (t : Tr) (j : Nat) : ByteArray := preT t.kind ++ rowT (sepT t.kind) ((t.parts.take j).map (textS k))
theorem rowTo_zero : rowTo k t 0 = preT t.kind := by unfold rowTo; rw [List.take_zero]; exact app_no _
theorem rowTo_one (h : 0 < t.parts.length) : rowTo k t (0 + 1) = preT t.kind ++ brkT (textS k t.parts[0]) := by
  unfold rowTo; rw [List.take_succ_eq_append_getElem h, List.take_zero, List.nil_append, List.map_singleton, rowT_one]
theorem rowTo_succ {j : Nat} (h : j < t.parts.length) (h0 : 0 < j) : rowTo k t (j + 1) = rowTo k t j ++ sepT t.kind ++ brkT (textS k t.parts[j]) := by
  unfold rowTo; rw [List.take_succ_eq_append_getElem h, List.map_append, List.map_singleton, rowT_snoc _ _ _ (by
    intro e
    have := congrArg List.length e
    rw [List.length_map, List.length_take, List.length_nil] at this
    omega)]
  simp only [app_app]
theorem rowTo_all (h : 3 ≤ t.kind ∧ t.kind ≤ 7) : rowTo k t t.parts.length ++ (if t.kind = 7 then boundsT t.lo t.hi else noT) = textS (k + 1) t := by
  rw [text_row h]; unfold rowTo; rw [List.take_length]
theorem rowTo_le (h : 3 ≤ t.kind ∧ t.kind ≤ 7) (j : Nat) : (rowTo k t j).size ≤ (textS (k + 1) t).size := by
  rw [text_row h]
  have := rowT_le (sepT t.kind) ((t.parts.take j).map (textS k)) ((t.parts.drop j).map (textS k))
  rw [← List.map_append, List.take_append_drop] at this
  unfold rowTo
  rw [size_app, size_app, size_app]; omega
theorem part_le (h : 3 ≤ t.kind ∧ t.kind ≤ 7) {j : Nat} (hj : j < t.parts.length) : (textS k t.parts[j]).size ≤ (textS (k + 1) t).size := by
  have := rowT_mem (sepT t.kind) (x := textS k t.parts[j]) (l := t.parts.map (textS k)) (List.mem_map.2 ⟨_, List.getElem_mem hj, rfl⟩)
  rw [text_row h, size_app, size_app]; omega
end
/-- One more part is written. -/
theorem text_more {k j : Nat} {t : Tr} {x sep y : ByteArray} (h : 3 ≤ t.kind ∧ t.kind ≤ 7) (hj : j < t.parts.length) (hx : x = rowTo k t j) (hsep : sep = if 0 < j then sepT t.kind else noT) (hy : TextR k t.parts[j] y) :
    ((x ++ sep ++ brkT y).size ≤ 30000 → x ++ sep ++ brkT y = rowTo k t (j + 1)) ∧ (30000 < (x ++ sep ++ brkT y).size → TextR (k + 1) t (x ++ sep ++ brkT y)) := by
  have key : y = textS k t.parts[j] → x ++ sep ++ brkT y = rowTo k t (j + 1) := fun e => by
    subst e
    by_cases h0 : 0 < j
    · rw [rowTo_succ hj h0, hx, hsep, if_pos h0]
    · obtain rfl : j = 0 := by omega
      rw [rowTo_one hj, hx, hsep, if_neg h0, rowTo_zero, app_no]
  have hs : y.size ≤ (x ++ sep ++ brkT y).size := by rw [size_app, brkT_size]; omega
  rcases hy with hy | ⟨h1, h2⟩
  · refine ⟨fun _ => key hy, fun hb => Or.inr ⟨hb, ?_⟩⟩
    rw [key hy] at hb
    have := rowTo_le (k := k) h (j + 1)
    omega
  · refine ⟨fun q => absurd q (by omega), fun hb => Or.inr ⟨hb, ?_⟩⟩
    have := part_le (k := k) h hj
    omega
theorem text_look_r {k : Nat} {t : Tr} {y : ByteArray} (h : t.kind = 8 ∨ t.kind = 9) (hl : 0 < t.parts.length) (hy : TextR k t.parts[0] y) : TextR (k + 1) t (lookT t.kind t.neg ++ y ++ ⟨#[41]⟩) := by
  rcases hy with hy | ⟨h1, h2⟩
  · left; rw [text_look h hl, hy]
  · right
    rw [text_look h hl, size_app, size_app, size_app, size_app]
    omega

end Go.Proofs.YtibmcdgnponpmaaDoor
