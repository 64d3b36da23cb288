/- Joined: Words, Cl. -/
import Derived.WalkKit
import Derived.WalkSpells
import Derived.WalkLawsBesides
import Derived.Laws.BitsAllLaws
import Derived.Lib.Hide
import Derived.ChangeKeysEq
import Derived.Laws.StructEq
import Derived.Deep.MidRow
/- Plain facts on sets of four words: which byte a set has, and what the words of "or", "and", "without" and "not" are. No program is named here. -/
namespace Go.Proofs.YthifbaacmohmnaaGreat
open Go.RowKit

def U64 (n : Nat) : Prop := n < 18446744073709551616

structure St where
  w0 : Nat
  w1 : Nat
  w2 : Nat
  w3 : Nat

def St.word (s : St) (i : Nat) : Nat := if i = 0 then s.w0 else if i = 1 then s.w1 else if i = 2 then s.w2 else s.w3
def St.has (s : St) (x : Nat) : Bool := (s.word (x / 64)).testBit (x % 64)
structure St.Ok (s : St) : Prop where
  o0 : U64 s.w0
  o1 : U64 s.w1
  o2 : U64 s.w2
  o3 : U64 s.w3
theorem St.Ok.word {s : St} (h : s.Ok) (i : Nat) : U64 (s.word i) := by
  unfold St.word
  split
  · exact h.o0
  · split
    · exact h.o1
    · split
      · exact h.o2
      · exact h.o3

def sv (s : St) : Value := .agg #[.int .u64 s.w0, .int .u64 s.w1, .int .u64 s.w2, .int .u64 s.w3]
theorem bit_shr (a k : Nat) (ha : U64 a) : (bits .and .u64 ((a : Int) / 2 ^ k) 1 == 1) = a.testBit k := by
  unfold U64 at ha
  have e : ((a : Int) / 2 ^ k) = ((a / 2 ^ k : Nat) : Int) := by rw [Int.natCast_ediv, Int.natCast_pow]; rfl
  have hd : a / 2 ^ k ≤ a := Nat.div_le_self _ _
  rw [e, show (1 : Int) = ((1 : Nat) : Int) from rfl, u64_and_nat _ _ (by omega) (by omega), Nat.and_one_is_mod, Nat.testBit_eq_decide_div_mod_eq, Bool.eq_iff_iff]
  simp only [beq_iff_eq, decide_eq_true_eq]
  omega
def hv (a k : Nat) : Nat := a / 2 ^ k
theorem hv_zero (a : Nat) : hv a 0 = a := by unfold hv; simp
theorem hv_u64 (a k : Nat) (ha : U64 a) : U64 (hv a k) := Nat.lt_of_le_of_lt (Nat.div_le_self _ _) ha
theorem hv_half (a k : Nat) (ha : U64 a) : IntKind.u64.wrap (((hv a k : Nat) : Int).tdiv 2) = ((hv a (k + 1) : Nat) : Int) := by
  have h := hv_u64 a k ha
  unfold U64 at h
  have e : hv a (k + 1) = hv a k / 2 := by unfold hv; rw [Nat.pow_succ, ← Nat.div_div_eq_div_mul]
  rw [e, IntKind.wrap_u64, Int.tdiv_eq_ediv_of_nonneg (by omega)]
  omega
theorem hv_half' (a k : Nat) (ha : U64 a) : IntKind.u64.wrap (((hv a k : Nat) : Int) / 2) = ((hv a (k + 1) : Nat) : Int) := by
  rw [← hv_half a k ha, Int.tdiv_eq_ediv_of_nonneg (by omega)]
theorem hv_bit' (a k : Nat) : (((hv a k : Nat) : Int) % 2 == 1) = a.testBit k := by
  rw [Nat.testBit_eq_decide_div_mod_eq, Bool.eq_iff_iff]
  show _ ↔ decide (hv a k % 2 = 1) = true
  simp only [beq_iff_eq, decide_eq_true_eq]
  omega

def St.or (s t : St) : St := ⟨s.w0 ||| t.w0, s.w1 ||| t.w1, s.w2 ||| t.w2, s.w3 ||| t.w3⟩
def St.and (s t : St) : St := ⟨s.w0 &&& t.w0, s.w1 &&& t.w1, s.w2 &&& t.w2, s.w3 &&& t.w3⟩
def M64 : Nat := 18446744073709551615
def St.sub (s t : St) : St := ⟨s.w0 &&& (M64 - t.w0), s.w1 &&& (M64 - t.w1), s.w2 &&& (M64 - t.w2), s.w3 &&& (M64 - t.w3)⟩
def St.not (s : St) : St := ⟨M64 - s.w0, M64 - s.w1, M64 - s.w2, M64 - s.w3⟩
theorem or_u64 {a b : Nat} (ha : U64 a) (hb : U64 b) : U64 (a ||| b) := Nat.or_lt_two_pow (n := 64) ha hb
theorem and_u64 {a b : Nat} (ha : U64 a) : U64 (a &&& b) := Nat.lt_of_le_of_lt Nat.and_le_left ha
theorem not_u64 {a : Nat} : U64 (M64 - a) := by unfold U64 M64; omega
theorem St.or_ok {s t : St} (hs : s.Ok) (ht : t.Ok) : (s.or t).Ok := ⟨or_u64 hs.o0 ht.o0, or_u64 hs.o1 ht.o1, or_u64 hs.o2 ht.o2, or_u64 hs.o3 ht.o3⟩
theorem St.and_ok {s t : St} (hs : s.Ok) : (s.and t).Ok := ⟨and_u64 hs.o0, and_u64 hs.o1, and_u64 hs.o2, and_u64 hs.o3⟩
theorem St.not_ok {s : St} : s.not.Ok := ⟨not_u64, not_u64, not_u64, not_u64⟩

theorem word_or (s t : St) (i : Nat) : (s.or t).word i = s.word i ||| t.word i := by
  unfold St.word St.or; dsimp only; (repeat' split) <;> rfl
theorem word_and (s t : St) (i : Nat) : (s.and t).word i = s.word i &&& t.word i := by
  unfold St.word St.and; dsimp only; (repeat' split) <;> rfl
theorem word_not (s : St) (i : Nat) : s.not.word i = M64 - s.word i := by
  unfold St.word St.not; dsimp only; (repeat' split) <;> rfl
theorem testBit_compl (a k : Nat) (ha : U64 a) (hk : k < 64) : (M64 - a).testBit k = !a.testBit k := by
  have h := Nat.testBit_two_pow_sub_succ (n := 64) (x := a) ha k
  rw [show M64 - a = 2 ^ 64 - (a + 1) from by unfold M64; omega, h]
  simp [hk]
theorem has_or (s t : St) (x : Nat) : (s.or t).has x = (s.has x || t.has x) := by
  unfold St.has; rw [word_or, Nat.testBit_or]
theorem has_and (s t : St) (x : Nat) : (s.and t).has x = (s.has x && t.has x) := by
  unfold St.has; rw [word_and, Nat.testBit_and]
theorem has_not (s : St) (hs : s.Ok) (x : Nat) : s.not.has x = !s.has x := by
  unfold St.has; rw [word_not, testBit_compl _ _ (hs.word _) (Nat.mod_lt _ (by omega))]

theorem bits_or (a b : Nat) (ha : U64 a) (hb : U64 b) : bits .or .u64 (a : Int) (b : Int) = ((a ||| b : Nat) : Int) := u64_or_nat a b ha hb
theorem bits_and (a b : Nat) (ha : U64 a) (hb : U64 b) : bits .and .u64 (a : Int) (b : Int) = ((a &&& b : Nat) : Int) := u64_and_nat a b ha hb
theorem bits_andNot (a b : Nat) (ha : U64 a) (hb : U64 b) : bits .andNot .u64 (a : Int) (b : Int) = ((a &&& (M64 - b) : Nat) : Int) := u64_andNot_nat a b ha hb
theorem bits_not (a : Nat) (ha : U64 a) : bits .xor .u64 IntKind.u64.max (a : Int) = ((M64 - a : Nat) : Int) := by
  unfold U64 at ha
  show IntKind.u64.wrap ((BitVec.ofInt 64 IntKind.u64.max ^^^ BitVec.ofInt 64 (a : Int)).toNat : Int) = _
  have h1 : BitVec.ofInt 64 IntKind.u64.max = BitVec.allOnes 64 := by decide
  rw [h1, BitVec.allOnes_xor, BitVec.toNat_not, ofInt_u64 a (by omega), IntKind.wrap_u64]
  unfold M64
  omega

def pw (r : Nat) : Nat := 2 ^ r
def St.put (s : St) (b : Nat) : St :=
  if b / 64 = 0 then ⟨s.w0 ||| pw (b % 64), s.w1, s.w2, s.w3⟩
  else if b / 64 = 1 then ⟨s.w0, s.w1 ||| pw (b % 64), s.w2, s.w3⟩
  else if b / 64 = 2 then ⟨s.w0, s.w1, s.w2 ||| pw (b % 64), s.w3⟩
  else ⟨s.w0, s.w1, s.w2, s.w3 ||| pw (b % 64)⟩
/- A block of memory that is known whole. -/
def At (w : World) (g : Nat) (t : TypeId) (cs : Array Value) : Prop := w.heap[g]? = some (.cells cs t (0, 0))
section
variable {w w' : World} {g : Nat} {t : TypeId} {cs : Array Value}
theorem At.cell (h : At w g t cs) (i : Nat) : w.cell? ⟨g, i, none⟩ = cs[i]? := cell_of_row w g i cs t (0, 0) h
theorem At.free (h : At w g t cs) (i : Nat) : w.frozen? ⟨g, i, none⟩ = false := frozen_of_row w g i cs t h
theorem At.lt (h : At w g t cs) : g < w.heap.size := by
  by_cases hlt : g < w.heap.size
  · exact hlt
  · unfold At at h
    rw [Array.getElem?_eq_none (by omega)] at h
    cases h
theorem At.drew (h : At w g t cs) : At w.drew g t cs := h
theorem At.drewN (h : At w g t cs) (n : Nat) : At (w.drewN n) g t cs := h
theorem At.alloc (h : At w g t cs) (o : Obj) : At (w.alloc o) g t cs := (Below.heap_alloc w o g h.lt).trans h
theorem At.new (w : World) (t : TypeId) (cs : Array Value) : At (w.alloc (.cells cs t)) w.heap.size t cs := heap_alloc_new w _
theorem At.set (h : At w g t cs) (i : Nat) (v : Value) : At (w.setCell ⟨g, i, none⟩ v) g t (cs.setIfInBounds i v) := heap_setCell_same w g i cs t v h
theorem At.other (h : At w g t cs) {p : Addr} (hne : g ≠ p.block) (v : Value) : At (w.setCell p v) g t cs := (Below.heap_setCell w p v g hne).trans h
theorem At.below {B : Nat} (h : At w g t cs) (hb : Below B w w') (hg : g < B) : At w' g t cs := (hb.block g hg).trans h
end
def c4 (a b c d : Nat) : Array Value := #[.int .u64 a, .int .u64 b, .int .u64 c, .int .u64 d]
/-- A set lies in block g. -/
def SetAt (w : World) (g : Nat) (t : TypeId) (s : St) : Prop := At w g t #[.int .u64 s.w0, .int .u64 s.w1, .int .u64 s.w2, .int .u64 s.w3]
theorem SetAt.cells {w : World} {g : Nat} {t : TypeId} {s : St} (h : SetAt w g t s) :
    w.cell? ⟨g, 0, none⟩ = some (.int .u64 s.w0) ∧ w.cell? ⟨g, 1, none⟩ = some (.int .u64 s.w1) ∧ w.cell? ⟨g, 2, none⟩ = some (.int .u64 s.w2) ∧ w.cell? ⟨g, 3, none⟩ = some (.int .u64 s.w3) :=
  ⟨At.cell h 0, At.cell h 1, At.cell h 2, At.cell h 3⟩
theorem SetAt.store {w : World} {g : Nat} {t : TypeId} {s : St} (h : SetAt w g t s) (u : St) :
    SetAt ((((w.setCell ⟨g, 0, none⟩ (.int .u64 u.w0)).setCell ⟨g, 1, none⟩ (.int .u64 u.w1)).setCell ⟨g, 2, none⟩ (.int .u64 u.w2)).setCell ⟨g, 3, none⟩ (.int .u64 u.w3)) g t u :=
  (((At.set h 0 _).set 1 _).set 2 _).set 3 _
theorem SetAt.below {B : Nat} {w w' : World} {g : Nat} {t : TypeId} {s : St} (h : SetAt w g t s) (hb : Below B w w') (hg : g < B) : SetAt w' g t s := At.below h hb hg
theorem SetAt.lt {w : World} {g : Nat} {t : TypeId} {s : St} (h : SetAt w g t s) : g < w.heap.size := At.lt h
theorem SetAt.next {w w' : World} {g : Nat} {t : TypeId} {s : St} (h : SetAt w g t s) (hb : Below w.heap.size w w') : SetAt w' g t s := At.below h hb h.lt
theorem SetAt.other {w : World} {g : Nat} {t : TypeId} {s : St} (h : SetAt w g t s) {g' : Nat} (hne : g ≠ g') (u : St) :
    SetAt ((((w.setCell ⟨g', 0, none⟩ (.int .u64 u.w0)).setCell ⟨g', 1, none⟩ (.int .u64 u.w1)).setCell ⟨g', 2, none⟩ (.int .u64 u.w2)).setCell ⟨g', 3, none⟩ (.int .u64 u.w3)) g t s :=
  At.other (At.other (At.other (At.other h hne _) hne _) hne _) hne _
theorem SetAt.drew {w : World} {g : Nat} {t : TypeId} {s : St} (h : SetAt w g t s) : SetAt w.drew g t s := h
theorem SetAt.drewN {w : World} {g : Nat} {t : TypeId} {s : St} (h : SetAt w g t s) (n : Nat) : SetAt (w.drewN n) g t s := h
theorem SetAt.alloc {w : World} {g : Nat} {t : TypeId} {s : St} (h : SetAt w g t s) (o : Obj) : SetAt (w.alloc o) g t s := At.alloc h o
theorem SetAt.new (w : World) (t : TypeId) (s : St) : SetAt (w.alloc (.cells #[.int .u64 s.w0, .int .u64 s.w1, .int .u64 s.w2, .int .u64 s.w3] t)) w.heap.size t s := At.new _ _ _
/-- What a call leaves alone, where it began in the world w0: w, or w behind draws. -/
theorem SetAt.step {w w0 w' : World} {g : Nat} {t : TypeId} {s : St} (h : SetAt w g t s) (hb : Below w0.heap.size w0 w') (e : w0.heap = w.heap) : SetAt w' g t s := by
  have h0 : SetAt w0 g t s := by unfold SetAt At at h ⊢; rw [e]; exact h
  exact h0.next hb
theorem below_step {W w w0 w' : World} (h : Below W.heap.size W w) (hb : Below w0.heap.size w0 w') (e : w0.heap = w.heap) (e1 : w0.os = w.os) (e2 : w0.tape = w.tape) (e3 : w0.output = w.output) : Below W.heap.size W w' :=
  Below.trans ⟨e1.trans h.os, e2.trans h.tape, e3.trans h.output, by rw [e]; exact h.size, fun i hi => by rw [e]; exact h.block i hi⟩ (hb.mono (by rw [e]; exact h.size))
theorem bcell {W w1 : World} {B : Nat} (hb : Below B W w1) :
    (∀ b o, b < B → w1.cell? ⟨b, o, none⟩ = W.cell? ⟨b, o, none⟩) ∧ (∀ b o, b < B → w1.frozen? ⟨b, o, none⟩ = W.frozen? ⟨b, o, none⟩) :=
  ⟨fun b o h => hb.cell (p := ⟨b, o, none⟩) h, fun b o h => hb.frozen (p := ⟨b, o, none⟩) h⟩

/-- A slice of bytes that reads as l (its address is asked for only where it has bytes). -/
def IsBytes (W : World) (A : Option Addr) (n : Nat) (l : List Nat) : Prop :=
  n = l.length ∧ n ≤ 9223372036854775807 ∧ (∀ (k : Nat) (h : k < l.length), l[k] < 256) ∧
  (0 < n → ∃ b off, A = some ⟨b, off, none⟩ ∧ b < W.heap.size ∧ ∀ (k : Nat) (h : k < l.length), W.cell? ⟨b, off + k, none⟩ = some (.int .u8 l[k]))
theorem IsBytes.below {W w : World} {A : Option Addr} {n : Nat} {l : List Nat} (h : IsBytes W A n l) (hb : Below W.heap.size W w) : IsBytes w A n l :=
  ⟨h.1, h.2.1, h.2.2.1, fun hn => by
    obtain ⟨b, off, e, hlt, hc⟩ := h.2.2.2 hn
    exact ⟨b, off, e, Nat.lt_of_lt_of_le hlt hb.size, fun k hk => ((bcell hb).1 b _ hlt).trans (hc k hk)⟩⟩
theorem IsBytes.drew {W : World} {A : Option Addr} {n : Nat} {l : List Nat} (h : IsBytes W A n l) : IsBytes W.drew A n l := h

/- '==' on two sets. -/
def St.eqb (s t : St) : Bool := (s.w0 == t.w0) && ((s.w1 == t.w1) && ((s.w2 == t.w2) && (s.w3 == t.w3)))
theorem St.eqb_iff (s t : St) : s.eqb t = true ↔ s = t := by
  cases s; cases t
  simp [St.eqb]
theorem St.eqb_self (s : St) : s.eqb s = true := (St.eqb_iff s s).2 rfl
theorem beq_cast (a b : Nat) : ((a : Int) == (b : Int)) = (a == b) := by
  rw [Bool.eq_iff_iff]; simp only [beq_iff_eq]; omega
theorem run_set_eq {P : Program} {T E : TypeId} (hu : P.underlying T = some (.array 4 E)) (hi0 : (P.info? E).isSome = true) (hE : P.underlying E = some (.int .u64)) (hc : P.cellsOf E = 1) (d : Nat) (w : World) (s t : St) :
    (Op.equalIn (d + 2) T (.agg #[.int .u64 s.w0, .int .u64 s.w1, .int .u64 s.w2, .int .u64 s.w3]) (.agg #[.int .u64 t.w0, .int .u64 t.w1, .int .u64 t.w2, .int .u64 t.w3])).run P w = .ok (s.eqb t) w := by
  obtain ⟨i, hi⟩ := Option.isSome_iff_exists.1 hi0
  rw [show d + 2 = (d + 1) + 1 from rfl, run_equalIn_array w (d + 1) _ _ hu hi, hc]
  have hr : List.range 4 = [0, 1, 2, 3] := by decide
  rw [hr]
  have hp : ∀ (a0 a1 a2 a3 : Value), (part E #[a0, a1, a2, a3] 0).run P w = .ok a0 w ∧ (part E #[a0, a1, a2, a3] 1).run P w = .ok a1 w ∧
      (part E #[a0, a1, a2, a3] 2).run P w = .ok a2 w ∧ (part E #[a0, a1, a2, a3] 3).run P w = .ok a3 w := by
    intro a0 a1 a2 a3
    refine ⟨?_, ?_, ?_, ?_⟩ <;> simp [part, isAgg, run_underlying hE]
  obtain ⟨p0, p1, p2, p3⟩ := hp (.int .u64 s.w0) (.int .u64 s.w1) (.int .u64 s.w2) (.int .u64 s.w3)
  obtain ⟨q0, q1, q2, q3⟩ := hp (.int .u64 t.w0) (.int .u64 t.w1) (.int .u64 t.w2) (.int .u64 t.w3)
  have he : ∀ a b : Nat, (Op.equalIn (d + 1) E (.int .u64 a) (.int .u64 b)).run P w = .ok (a == b) w := by
    intro a b
    rw [run_equalIn_int w d E .u64 .u64 _ _ hE, ← beq_cast]
  have hs : ∀ (xs ys : Array Value) (k : Nat) (r : List Nat) (a b : Nat), (part E xs k).run P w = .ok (.int .u64 a) w → (part E ys k).run P w = .ok (.int .u64 b) w →
      (Op.eqItems (d + 1) E 1 xs ys (k :: r)).run P w = bif a == b then (Op.eqItems (d + 1) E 1 xs ys r).run P w else .ok false w := by
    intro xs ys k r a b h1 h2
    simp only [Op.eqItems, Sem.run_bind, Nat.mul_one, h1, h2, he, Result.andThen_ok]
    cases a == b <;> simp
  rw [hs _ _ 0 _ _ _ p0 q0, hs _ _ 1 _ _ _ p1 q1, hs _ _ 2 _ _ _ p2 q2, hs _ _ 3 _ _ _ p3 q3]
  have hn : ∀ xs ys : Array Value, (Op.eqItems (d + 1) E 1 xs ys []).run P w = .ok true w := fun xs ys => by simp [Op.eqItems]
  rw [hn]
  unfold St.eqb
  cases s.w0 == t.w0 <;> cases s.w1 == t.w1 <;> cases s.w2 == t.w2 <;> cases s.w3 == t.w3 <;> rfl

end Go.Proofs.YthifbaacmohmnaaGreat

/- Plain facts on classes: which are right, how a set parts them, what cells they are in memory. No program is named here. -/
namespace Go.Proofs.YthifbaacmohmnaaGreat
open Go.RowKit

/-- A row of n cells, by place. -/
def arr (n : Nat) (g : Nat → Value) : Array Value := ((List.range n).map g).toArray
theorem arr_size (n : Nat) (g : Nat → Value) : (arr n g).size = n := by simp [arr]
theorem arr_get (n : Nat) (g : Nat → Value) (k : Nat) (h : k < n) : (arr n g)[k]? = some (g k) := by simp [arr, h]
theorem arr_congr {n : Nat} {g h : Nat → Value} (e : ∀ k, k < n → g k = h k) : arr n g = arr n h := by
  unfold arr; congr 1; apply List.map_congr_left; intro k hk; exact e k (by simpa using hk)
theorem arr_set (n : Nat) (g : Nat → Value) (k : Nat) (v : Value) : (arr n g).setIfInBounds k v = arr n (fun j => if j = k then v else g j) := by
  apply Array.ext_getElem?
  intro i
  rw [Array.getElem?_setIfInBounds]
  by_cases hi : i < n
  · rw [arr_get _ _ i hi, arr_get _ _ i hi, arr_size]
    by_cases e : k = i
    · subst e; simp [hi]
    · have e' : ¬ i = k := fun h => e h.symm
      simp [e, e']
  · have h1 : ∀ g' : Nat → Value, (arr n g')[i]? = none := fun g' => by rw [Array.getElem?_eq_none]; rw [arr_size]; omega
    rw [h1, h1, arr_size]
    by_cases e : k = i
    · subst e; simp [hi]
    · simp [e]
section
variable {w w' W : World} {g B : Nat} {t : TypeId} {cs old : Array Value}
theorem At.row (h : At w g t old) (cs : Array Value) : At (w.setRow g cs) g t cs := setRow_heap w g old cs t (0, 0) h
theorem below_row (h : Below B W w) (hg : B ≤ g) (cs : Array Value) : Below B W (w.setRow g cs) :=
  ⟨h.os, h.tape, h.output, by rw [setRow_size]; exact h.size, fun i hi => (setRow_other w g i cs (by omega)).trans (h.block i hi)⟩
theorem at_new' (w : World) (g : Nat) (t : TypeId) {cs : Array Value} (h : g = w.heap.size) : At (w.alloc (.cells cs t)) g t cs := by
  subst h; exact At.new w t cs
end

/-- Classes: which class a byte is of, and how many there are. -/
structure Cl where
  cl : Nat → Nat
  n : Int
def Cl.Ok (c : Cl) : Prop := ∀ k, k < 256 → c.cl k < 256
def Cl.g (c : Cl) (k : Nat) : Value := if k < 256 then .int .u8 (c.cl k : Nat) else .int .i64 c.n
def Cl.cells (c : Cl) : Array Value := arr 257 c.g
theorem Cl.size (c : Cl) : c.cells.size = 257 := arr_size _ _
theorem Cl.get (c : Cl) (k : Nat) (h : k < 256) : c.cells[k]? = some (.int .u8 (c.cl k : Nat)) := by
  unfold Cl.cells; rw [arr_get _ _ k (by omega)]; simp [Cl.g, h]
def Cl.zero : Cl := ⟨fun _ => 0, 0⟩
def Cl.one : Cl := ⟨fun _ => 0, 1⟩
/- Which classes are right. -/
def rstep (s : Option Nat) (x : Nat) : Option Nat := s.bind fun m => if m < x then none else if x = m then some (m + 1) else some m
def Cl.met (c : Cl) : Nat → Option Nat
  | 0 => some 0
  | k + 1 => rstep (c.met k) (c.cl k)
def Cl.right (c : Cl) : Bool := match c.met 256 with | none => false | some m => c.n == (m : Int)
/- Keys in the order in which they come up. -/
def nub (f : Nat → Nat) : Nat → List Nat
  | 0 => []
  | k + 1 => if f k ∈ nub f k then nub f k else nub f k ++ [f k]
/-- A byte's key: its class, and whether the set has it. -/
def Cl.key (c : Cl) (s : St) (b : Nat) : Nat := 2 * c.cl b + (if s.has b then 1 else 0)
/-- What 'part' has laid when the first k bytes are done. -/
def Cl.partTo (c : Cl) (s : St) (k : Nat) : Cl := ⟨fun b => if b < k then (nub (c.key s) k).idxOf (c.key s b) else 0, ((nub (c.key s) k).length : Nat)⟩
def Cl.part (c : Cl) (s : St) : Cl := c.partTo s 256
/- Classes made of sets. -/
def alike (l : List St) (a b : Nat) : Bool := l.all (fun s => s.has a == s.has b)
/- The rows of 'given' and 'number' while 'part' runs. -/
/-- A slice of sets that reads as l (its address is asked for only where it has sets). -/
def IsSets (W : World) (A : Option Addr) (n : Nat) (l : List St) : Prop :=
  n = l.length ∧ n ≤ 9223372036854775807 ∧ (∀ (k : Nat) (h : k < l.length), l[k].Ok) ∧
  (0 < n → ∃ b off, A = some ⟨b, off, none⟩ ∧ b < W.heap.size ∧ ∀ (k : Nat) (h : k < l.length),
    W.cell? ⟨b, off + k * 4, none⟩ = some (.int .u64 l[k].w0) ∧ W.cell? ⟨b, off + k * 4 + 1, none⟩ = some (.int .u64 l[k].w1) ∧ W.cell? ⟨b, off + k * 4 + 2, none⟩ = some (.int .u64 l[k].w2) ∧ W.cell? ⟨b, off + k * 4 + 3, none⟩ = some (.int .u64 l[k].w3))
theorem IsSets.below {W w : World} {A : Option Addr} {n : Nat} {l : List St} {B : Nat} (h : IsSets W A n l) (hB : W.heap.size ≤ B) (hb : Below B W w) : IsSets w A n l :=
  ⟨h.1, h.2.1, h.2.2.1, fun hn => by
    obtain ⟨b, off, e, hlt, hc⟩ := h.2.2.2 hn
    refine ⟨b, off, e, Nat.lt_of_lt_of_le hlt hb.size, fun k hk => ?_⟩
    obtain ⟨c0, c1, c2, c3⟩ := hc k hk
    exact ⟨((bcell hb).1 b _ (by omega)).trans c0, ((bcell hb).1 b _ (by omega)).trans c1, ((bcell hb).1 b _ (by omega)).trans c2, ((bcell hb).1 b _ (by omega)).trans c3⟩⟩
theorem IsSets.next {W w : World} {A : Option Addr} {n : Nat} {l : List St} (h : IsSets W A n l) (hb : Below W.heap.size W w) : IsSets w A n l := h.below (Nat.le_refl _) hb
theorem IsSets.drew {W : World} {A : Option Addr} {n : Nat} {l : List St} (h : IsSets W A n l) : IsSets W.drew A n l := h
theorem IsSets.nil (W : World) (A : Option Addr) : IsSets W A 0 [] := ⟨rfl, by omega, fun k h => by simp at h, fun h => by omega⟩
/- '==' on two classes that are the same. -/
section
variable {P : Program}
end

end Go.Proofs.YthifbaacmohmnaaGreat
