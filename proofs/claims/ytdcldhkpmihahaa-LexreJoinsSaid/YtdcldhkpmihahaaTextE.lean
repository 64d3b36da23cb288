/- A class as it is read: what the reference's class answers (its walk is still to do). -/
import Derived.Test.YtdcldhkpmihahaaTextD
import Derived.Test.YtdcldhkpmihahaaPut
import Derived.Laws.Rows
namespace Go.Proofs.Ytdcldhkpmihahaa
open Go.RowKit
set_option linter.unusedSimpArgs false
set_option linter.unusedVariables false

/-- Two results, the first a row that stands in a variable. -/
theorem results_row_tmp {P : Program} {fn : Func} {p u : Tmp} {ty : TypeId} (h : fn.results = #[.cell p ty, .tmp u]) (tmps : Array Value) (w : World) (g : Nat) (t : TypeId) (cs : Array Value) (fr : Nat × Nat) (d : TypeDesc)
    (hp : tmps.getD p undef = .pointer (some ⟨g, 0, none⟩)) (hg : w.heap[g]? = some (.cells cs t fr))
    (hu : P.underlying ty = some d) (hd : (match d with | .struct _ | .array _ _ => true | _ => false) = true) (hi : (P.info? ty).map (·.size) = some cs.size) :
    (results fn tmps).run P w = .ok (.tuple #[.agg cs, tmps.getD u undef]) w := by
  have hp' : tmps[p]?.getD undef = .pointer (some ⟨g, 0, none⟩) := by simpa using hp
  simp [results, h, hp', asAddr, run_loadVar_row w g t ty cs fr d hg hu hd hi]

/-- What doesn't stand by itself in a class. -/
def ownC : ByteArray := { data := #[93, 45, 91, 94] }
/-- n bytes from lo on are put into c. -/
def puts (c : St) (lo : Nat) : Nat → St
  | 0 => c
  | n + 1 => (puts c lo n).put (lo + n)
theorem puts_ok {c : St} (h : c.Ok) (lo : Nat) : ∀ n, (puts c lo n).Ok
  | 0 => h
  | n + 1 => St.put_ok (puts_ok h lo n) _
/-- The rest of a class from place i on, c read so far: what it holds and the place of its ]; some place behind the end where there is none; none: it isn't formed. -/
def classFrom (s : ByteArray) : Nat → Nat → St → Option (St × Nat)
  | 0, _, _ => none
  | f + 1, i, c =>
    if s.size ≤ i ∨ bt s i = 93 then some (c, i)
    else if (charS s i ownC).2 = 0 then none
    else if i + (charS s i ownC).2.toNat < s.size ∧ bt s (i + (charS s i ownC).2.toNat) = 45 then
      (if (charS s (i + (charS s i ownC).2.toNat + 1) ownC).2 = 0 ∨ (charS s (i + (charS s i ownC).2.toNat + 1) ownC).1 < (charS s i ownC).1 then none
       else classFrom s f (i + (charS s i ownC).2.toNat + 1 + (charS s (i + (charS s i ownC).2.toNat + 1) ownC).2.toNat) (puts c (charS s i ownC).1.toNat ((charS s (i + (charS s i ownC).2.toNat + 1) ownC).1.toNat + 1 - (charS s i ownC).1.toNat)))
    else classFrom s f (i + (charS s i ownC).2.toNat) (puts c (charS s i ownC).1.toNat 1)
theorem classFrom_end {s : ByteArray} {f i : Nat} {c : St} (h : s.size ≤ i ∨ bt s i = 93) : classFrom s (f + 1) i c = some (c, i) := by rw [classFrom, if_pos h]
theorem classFrom_bad {s : ByteArray} {f i : Nat} {c : St} {a : Int} (h : ¬ (s.size ≤ i ∨ bt s i = 93)) (ha : charS s i ownC = (a, 0)) : classFrom s (f + 1) i c = none := by rw [classFrom, if_neg h, ha, if_pos rfl]
theorem classFrom_one {s : ByteArray} {f i a n : Nat} {c : St} (h : ¬ (s.size ≤ i ∨ bt s i = 93)) (ha : charS s i ownC = ((a : Int), (n : Int))) (hn : 0 < n) (hd : ¬ (i + n < s.size ∧ bt s (i + n) = 45)) :
    classFrom s (f + 1) i c = classFrom s f (i + n) (puts c a 1) := by
  rw [classFrom, if_neg h, ha]; dsimp only; rw [if_neg (by omega), Int.toNat_natCast, Int.toNat_natCast, if_neg hd]
theorem classFrom_bad2 {s : ByteArray} {f i a n : Nat} {c : St} {b m : Int} (h : ¬ (s.size ≤ i ∨ bt s i = 93)) (ha : charS s i ownC = ((a : Int), (n : Int))) (hn : 0 < n) (hd : i + n < s.size ∧ bt s (i + n) = 45) (hb : charS s (i + n + 1) ownC = (b, m)) (e : m = 0 ∨ b < a) :
    classFrom s (f + 1) i c = none := by
  rw [classFrom, if_neg h, ha]; dsimp only; rw [if_neg (by omega), Int.toNat_natCast, Int.toNat_natCast, if_pos hd, hb, if_pos e]
theorem classFrom_two {s : ByteArray} {f i a n b m : Nat} {c : St} (h : ¬ (s.size ≤ i ∨ bt s i = 93)) (ha : charS s i ownC = ((a : Int), (n : Int))) (hn : 0 < n) (hd : i + n < s.size ∧ bt s (i + n) = 45) (hb : charS s (i + n + 1) ownC = ((b : Int), (m : Int))) (hm : 0 < m) (hab : a ≤ b) :
    classFrom s (f + 1) i c = classFrom s f (i + n + 1 + m) (puts c a (b + 1 - a)) := by
  rw [classFrom, if_neg h, ha]; dsimp only; rw [if_neg (by omega), Int.toNat_natCast, Int.toNat_natCast, if_pos hd, hb]; dsimp only; rw [if_neg (by omega), Int.toNat_natCast, Int.toNat_natCast]
def emptyC : St := ⟨0, 0, 0, 0⟩
/-- A class that begins at place p: its set and how many bytes it takes; 0: none does. -/
def classS (s : ByteArray) (p : Nat) : St × Int :=
  match classFrom s (s.size + 1) (if p + 1 < s.size ∧ bt s (p + 1) = 94 then p + 2 else p + 1) emptyC with
  | none => (emptyC, 0)
  | some (c, j) => if s.size ≤ j then (emptyC, 0) else (if p + 1 < s.size ∧ bt s (p + 1) = 94 then c.not else c, (j : Int) + 1 - p)
/-- A char that is there, as Nats. -/
theorem char_nat (s : ByteArray) (i : Nat) (own : ByteArray) : ∃ a n : Nat, charS s i own = ((a : Int), (n : Int)) ∧ a < 256 ∧ n ≤ 4 := by
  have := char_bounds s i own
  refine ⟨(charS s i own).1.toNat, (charS s i own).2.toNat, ?_, by omega, by omega⟩
  rw [Int.toNat_of_nonneg (by omega), Int.toNat_of_nonneg (by omega)]
/-- A char that is there lies in the text. -/
theorem char_in {s own : ByteArray} {i a n : Nat} (h : charS s i own = ((a : Int), (n : Int))) (hn : 0 < n) : i + n ≤ s.size := by
  unfold charS escS at h
  (repeat' split at h) <;> (first | (have := congrArg Prod.snd h; dsimp only at this; omega))
end Go.Proofs.Ytdcldhkpmihahaa
