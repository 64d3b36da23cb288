/- Plain facts on sets of four words: which byte a set has, and what the words of "or", "and", "without" and "not" are. No program is named here. -/
import Derived.WalkKit
import Derived.WalkSpells
import Derived.WalkLawsBesides
import Derived.Laws.BitsAllLaws
import Derived.Lib.Hide
import Derived.ChangeKeysEq
import Derived.Laws.StructEq
namespace Go.Proofs.YtehokjaojanieaaDoor
open Go.RowKit

def U64 (n : Nat) : Prop := n < 18446744073709551616

structure St where
  w0 : Nat
  w1 : Nat
  w2 : Nat
  w3 : Nat

def St.word (s : St) (i : Nat) : Nat := if i = 0 then s.w0 else if i = 1 then s.w1 else if i = 2 then s.w2 else s.w3
def St.has (s : St) (x : Nat) : Bool := (s.word (x / 64)).testBit (x % 64)
structure St.Ok (s : St) : Prop where
  o0 : U64 s.w0
  o1 : U64 s.w1
  o2 : U64 s.w2
  o3 : U64 s.w3
theorem St.Ok.word {s : St} (h : s.Ok) (i : Nat) : U64 (s.word i) := by
  unfold St.word
  split
  · exact h.o0
  · split
    · exact h.o1
    · split
      · exact h.o2
      · exact h.o3

def sv (s : St) : Value := .agg #[.int .u64 s.w0, .int .u64 s.w1, .int .u64 s.w2, .int .u64 s.w3]
def cs4 (s : St) : Array Value := #[.int .u64 s.w0, .int .u64 s.w1, .int .u64 s.w2, .int .u64 s.w3]

theorem St.has0 (s : St) (r : Nat) (hr : r < 64) : s.has r = s.w0.testBit r := by
  unfold St.has St.word; rw [Nat.mod_eq_of_lt hr, if_pos (by omega)]
theorem St.has1 (s : St) (r : Nat) (hr : r < 64) : s.has (64 + r) = s.w1.testBit r := by
  unfold St.has St.word; rw [show (64 + r) % 64 = r from by omega, if_neg (by omega), if_pos (by omega)]
theorem St.has2 (s : St) (r : Nat) (hr : r < 64) : s.has (128 + r) = s.w2.testBit r := by
  unfold St.has St.word; rw [show (128 + r) % 64 = r from by omega, if_neg (by omega), if_neg (by omega), if_pos (by omega)]
theorem St.has3 (s : St) (r : Nat) (hr : r < 64) : s.has (192 + r) = s.w3.testBit r := by
  unfold St.has St.word; rw [show (192 + r) % 64 = r from by omega, if_neg (by omega), if_neg (by omega), if_neg (by omega)]

theorem bit_shr (a k : Nat) (ha : U64 a) : (bits .and .u64 ((a : Int) / 2 ^ k) 1 == 1) = a.testBit k := by
  unfold U64 at ha
  have e : ((a : Int) / 2 ^ k) = ((a / 2 ^ k : Nat) : Int) := by rw [Int.natCast_ediv, Int.natCast_pow]; rfl
  have hd : a / 2 ^ k ≤ a := Nat.div_le_self _ _
  rw [e, show (1 : Int) = ((1 : Nat) : Int) from rfl, u64_and_nat _ _ (by omega) (by omega), Nat.and_one_is_mod, Nat.testBit_eq_decide_div_mod_eq, Bool.eq_iff_iff]
  simp only [beq_iff_eq, decide_eq_true_eq]
  omega
def hv (a k : Nat) : Nat := a / 2 ^ k
theorem hv_zero (a : Nat) : hv a 0 = a := by unfold hv; simp
theorem hv_u64 (a k : Nat) (ha : U64 a) : U64 (hv a k) := Nat.lt_of_le_of_lt (Nat.div_le_self _ _) ha
theorem hv_half (a k : Nat) (ha : U64 a) : IntKind.u64.wrap (((hv a k : Nat) : Int).tdiv 2) = ((hv a (k + 1) : Nat) : Int) := by
  have h := hv_u64 a k ha
  unfold U64 at h
  have e : hv a (k + 1) = hv a k / 2 := by unfold hv; rw [Nat.pow_succ, ← Nat.div_div_eq_div_mul]
  rw [e, IntKind.wrap_u64, Int.tdiv_eq_ediv_of_nonneg (by omega)]
  omega
theorem hv_half' (a k : Nat) (ha : U64 a) : IntKind.u64.wrap (((hv a k : Nat) : Int) / 2) = ((hv a (k + 1) : Nat) : Int) := by
  rw [← hv_half a k ha, Int.tdiv_eq_ediv_of_nonneg (by omega)]
theorem hv_bit (a k : Nat) (ha : U64 a) : (IntKind.u64.wrap (((hv a k : Nat) : Int).tmod 2) == 1) = a.testBit k := by
  have h := hv_u64 a k ha
  unfold U64 at h
  rw [IntKind.wrap_u64, Int.tmod_eq_emod_of_nonneg (by omega), Nat.testBit_eq_decide_div_mod_eq, Bool.eq_iff_iff]
  show _ ↔ decide (hv a k % 2 = 1) = true
  simp only [beq_iff_eq, decide_eq_true_eq]
  omega
theorem hv_bit' (a k : Nat) : (((hv a k : Nat) : Int) % 2 == 1) = a.testBit k := by
  rw [Nat.testBit_eq_decide_div_mod_eq, Bool.eq_iff_iff]
  show _ ↔ decide (hv a k % 2 = 1) = true
  simp only [beq_iff_eq, decide_eq_true_eq]
  omega

def St.or (s t : St) : St := ⟨s.w0 ||| t.w0, s.w1 ||| t.w1, s.w2 ||| t.w2, s.w3 ||| t.w3⟩
def St.and (s t : St) : St := ⟨s.w0 &&& t.w0, s.w1 &&& t.w1, s.w2 &&& t.w2, s.w3 &&& t.w3⟩
def M64 : Nat := 18446744073709551615
def St.sub (s t : St) : St := ⟨s.w0 &&& (M64 - t.w0), s.w1 &&& (M64 - t.w1), s.w2 &&& (M64 - t.w2), s.w3 &&& (M64 - t.w3)⟩
def St.not (s : St) : St := ⟨M64 - s.w0, M64 - s.w1, M64 - s.w2, M64 - s.w3⟩
theorem or_u64 {a b : Nat} (ha : U64 a) (hb : U64 b) : U64 (a ||| b) := Nat.or_lt_two_pow (n := 64) ha hb
theorem and_u64 {a b : Nat} (ha : U64 a) : U64 (a &&& b) := Nat.lt_of_le_of_lt Nat.and_le_left ha
theorem not_u64 {a : Nat} : U64 (M64 - a) := by unfold U64 M64; omega
theorem St.or_ok {s t : St} (hs : s.Ok) (ht : t.Ok) : (s.or t).Ok := ⟨or_u64 hs.o0 ht.o0, or_u64 hs.o1 ht.o1, or_u64 hs.o2 ht.o2, or_u64 hs.o3 ht.o3⟩
theorem St.and_ok {s t : St} (hs : s.Ok) : (s.and t).Ok := ⟨and_u64 hs.o0, and_u64 hs.o1, and_u64 hs.o2, and_u64 hs.o3⟩
theorem St.sub_ok {s t : St} (hs : s.Ok) : (s.sub t).Ok := ⟨and_u64 hs.o0, and_u64 hs.o1, and_u64 hs.o2, and_u64 hs.o3⟩
theorem St.not_ok {s : St} : s.not.Ok := ⟨not_u64, not_u64, not_u64, not_u64⟩

theorem word_or (s t : St) (i : Nat) : (s.or t).word i = s.word i ||| t.word i := by
  unfold St.word St.or; dsimp only; (repeat' split) <;> rfl
theorem word_and (s t : St) (i : Nat) : (s.and t).word i = s.word i &&& t.word i := by
  unfold St.word St.and; dsimp only; (repeat' split) <;> rfl
theorem word_sub (s t : St) (i : Nat) : (s.sub t).word i = s.word i &&& (M64 - t.word i) := by
  unfold St.word St.sub; dsimp only; (repeat' split) <;> rfl
theorem word_not (s : St) (i : Nat) : s.not.word i = M64 - s.word i := by
  unfold St.word St.not; dsimp only; (repeat' split) <;> rfl
theorem testBit_compl (a k : Nat) (ha : U64 a) (hk : k < 64) : (M64 - a).testBit k = !a.testBit k := by
  have h := Nat.testBit_two_pow_sub_succ (n := 64) (x := a) ha k
  rw [show M64 - a = 2 ^ 64 - (a + 1) from by unfold M64; omega, h]
  simp [hk]
theorem has_or (s t : St) (x : Nat) : (s.or t).has x = (s.has x || t.has x) := by
  unfold St.has; rw [word_or, Nat.testBit_or]
theorem has_and (s t : St) (x : Nat) : (s.and t).has x = (s.has x && t.has x) := by
  unfold St.has; rw [word_and, Nat.testBit_and]
theorem has_sub (s t : St) (ht : t.Ok) (x : Nat) : (s.sub t).has x = (s.has x && !t.has x) := by
  unfold St.has; rw [word_sub, Nat.testBit_and, testBit_compl _ _ (ht.word _) (Nat.mod_lt _ (by omega))]
theorem has_not (s : St) (hs : s.Ok) (x : Nat) : s.not.has x = !s.has x := by
  unfold St.has; rw [word_not, testBit_compl _ _ (hs.word _) (Nat.mod_lt _ (by omega))]

theorem bits_or (a b : Nat) (ha : U64 a) (hb : U64 b) : bits .or .u64 (a : Int) (b : Int) = ((a ||| b : Nat) : Int) := u64_or_nat a b ha hb
theorem bits_and (a b : Nat) (ha : U64 a) (hb : U64 b) : bits .and .u64 (a : Int) (b : Int) = ((a &&& b : Nat) : Int) := u64_and_nat a b ha hb
theorem bits_andNot (a b : Nat) (ha : U64 a) (hb : U64 b) : bits .andNot .u64 (a : Int) (b : Int) = ((a &&& (M64 - b) : Nat) : Int) := u64_andNot_nat a b ha hb
theorem bits_not (a : Nat) (ha : U64 a) : bits .xor .u64 IntKind.u64.max (a : Int) = ((M64 - a : Nat) : Int) := by
  unfold U64 at ha
  show IntKind.u64.wrap ((BitVec.ofInt 64 IntKind.u64.max ^^^ BitVec.ofInt 64 (a : Int)).toNat : Int) = _
  have h1 : BitVec.ofInt 64 IntKind.u64.max = BitVec.allOnes 64 := by decide
  rw [h1, BitVec.allOnes_xor, BitVec.toNat_not, ofInt_u64 a (by omega), IntKind.wrap_u64]
  unfold M64
  omega

def pw (r : Nat) : Nat := 2 ^ r
def St.put (s : St) (b : Nat) : St :=
  if b / 64 = 0 then ⟨s.w0 ||| pw (b % 64), s.w1, s.w2, s.w3⟩
  else if b / 64 = 1 then ⟨s.w0, s.w1 ||| pw (b % 64), s.w2, s.w3⟩
  else if b / 64 = 2 then ⟨s.w0, s.w1, s.w2 ||| pw (b % 64), s.w3⟩
  else ⟨s.w0, s.w1, s.w2, s.w3 ||| pw (b % 64)⟩
theorem pw_u64 (r : Nat) (hr : r < 64) : U64 (pw r) := Nat.pow_lt_pow_right (by omega) hr
theorem St.put_ok {s : St} (hs : s.Ok) (b : Nat) : (s.put b).Ok := by
  have hp := pw_u64 (b % 64) (Nat.mod_lt _ (by omega))
  unfold St.put
  (repeat' split)
  · exact ⟨or_u64 hs.o0 hp, hs.o1, hs.o2, hs.o3⟩
  · exact ⟨hs.o0, or_u64 hs.o1 hp, hs.o2, hs.o3⟩
  · exact ⟨hs.o0, hs.o1, or_u64 hs.o2 hp, hs.o3⟩
  · exact ⟨hs.o0, hs.o1, hs.o2, or_u64 hs.o3 hp⟩
theorem put_at0 (s : St) (b r : Nat) (h : b / 64 = 0) (hr : r = b % 64) : s.put b = ⟨s.w0 ||| pw r, s.w1, s.w2, s.w3⟩ := by
  subst hr; unfold St.put; rw [if_pos h]
theorem put_at1 (s : St) (b r : Nat) (h : b / 64 = 1) (hr : r = b % 64) : s.put b = ⟨s.w0, s.w1 ||| pw r, s.w2, s.w3⟩ := by
  subst hr; unfold St.put; rw [if_neg (by omega), if_pos h]
theorem put_at2 (s : St) (b r : Nat) (h : b / 64 = 2) (hr : r = b % 64) : s.put b = ⟨s.w0, s.w1, s.w2 ||| pw r, s.w3⟩ := by
  subst hr; unfold St.put; rw [if_neg (by omega), if_neg (by omega), if_pos h]
theorem put_at3 (s : St) (b r : Nat) (h : b / 64 = 3) (hr : r = b % 64) : s.put b = ⟨s.w0, s.w1, s.w2, s.w3 ||| pw r⟩ := by
  subst hr; unfold St.put; rw [if_neg (by omega), if_neg (by omega), if_neg (by omega)]
theorem word_put (s : St) (b i : Nat) (hb : b < 256) (hi : i < 4) : (s.put b).word i = if i = b / 64 then s.word i ||| pw (b % 64) else s.word i := by
  have hq : b / 64 = 0 ∨ b / 64 = 1 ∨ b / 64 = 2 ∨ b / 64 = 3 := by omega
  have hi' : i = 0 ∨ i = 1 ∨ i = 2 ∨ i = 3 := by omega
  rcases hq with hq | hq | hq | hq
  · rw [put_at0 s b _ hq rfl, hq]; rcases hi' with rfl | rfl | rfl | rfl <;> simp [St.word]
  · rw [put_at1 s b _ hq rfl, hq]; rcases hi' with rfl | rfl | rfl | rfl <;> simp [St.word]
  · rw [put_at2 s b _ hq rfl, hq]; rcases hi' with rfl | rfl | rfl | rfl <;> simp [St.word]
  · rw [put_at3 s b _ hq rfl, hq]; rcases hi' with rfl | rfl | rfl | rfl <;> simp [St.word]
theorem has_put (s : St) (b x : Nat) (hb : b < 256) (hx : x < 256) : (s.put b).has x = (s.has x || decide (x = b)) := by
  unfold St.has
  rw [word_put s b _ hb (by omega)]
  split
  · rename_i h
    rw [Nat.testBit_or]
    unfold pw
    rw [Nat.testBit_two_pow]
    congr 1
    rw [Bool.eq_iff_iff]
    simp only [decide_eq_true_eq]
    omega
  · rename_i h
    rw [show decide (x = b) = false from by rw [decide_eq_false_iff_not]; rintro rfl; exact h rfl, Bool.or_false]
theorem shl_pw (r : Nat) (hr : r < 64) : IntKind.u64.wrap (2 ^ r) = ((pw r : Nat) : Int) := by
  have h := pw_u64 r hr
  unfold U64 at h
  have e : ((2 : Int) ^ r) = ((pw r : Nat) : Int) := by unfold pw; rw [Int.natCast_pow]; rfl
  rw [e, IntKind.wrap_u64]
  omega
theorem St.ext_has {s t : St} (hs : s.Ok) (ht : t.Ok) (h : ∀ x, x < 256 → s.has x = t.has x) : s = t := by
  have hw : ∀ i, i < 4 → s.word i = t.word i := by
    intro i hi
    apply Nat.eq_of_testBit_eq
    intro j
    by_cases hj : j < 64
    · have := h (64 * i + j) (by omega)
      unfold St.has at this
      rwa [show (64 * i + j) / 64 = i from by omega, show (64 * i + j) % 64 = j from by omega] at this
    · have h1 := hs.word i
      have h2 := ht.word i
      have hp : 18446744073709551616 ≤ 2 ^ j := by
        have : (2 : Nat) ^ 64 ≤ 2 ^ j := Nat.pow_le_pow_right (by omega) (by omega)
        exact this
      rw [Nat.testBit_lt_two_pow (Nat.lt_of_lt_of_le h1 hp), Nat.testBit_lt_two_pow (Nat.lt_of_lt_of_le h2 hp)]
  have e0 := hw 0 (by omega)
  have e1 := hw 1 (by omega)
  have e2 := hw 2 (by omega)
  have e3 := hw 3 (by omega)
  simp [St.word] at e0 e1 e2 e3
  cases s; cases t
  simp_all

/- A block of memory that is known whole. -/
def At (w : World) (g : Nat) (t : TypeId) (cs : Array Value) : Prop := w.heap[g]? = some (.cells cs t (0, 0))
section
variable {w w' : World} {g : Nat} {t : TypeId} {cs : Array Value}
theorem At.cell (h : At w g t cs) (i : Nat) : w.cell? ⟨g, i, none⟩ = cs[i]? := cell_of_row w g i cs t (0, 0) h
theorem At.free (h : At w g t cs) (i : Nat) : w.frozen? ⟨g, i, none⟩ = false := frozen_of_row w g i cs t h
theorem At.lt (h : At w g t cs) : g < w.heap.size := by
  by_cases hlt : g < w.heap.size
  · exact hlt
  · unfold At at h
    rw [Array.getElem?_eq_none (by omega)] at h
    cases h
theorem At.drew (h : At w g t cs) : At w.drew g t cs := h
theorem At.drewN (h : At w g t cs) (n : Nat) : At (w.drewN n) g t cs := h
theorem At.alloc (h : At w g t cs) (o : Obj) : At (w.alloc o) g t cs := (Below.heap_alloc w o g h.lt).trans h
theorem At.new (w : World) (t : TypeId) (cs : Array Value) : At (w.alloc (.cells cs t)) w.heap.size t cs := heap_alloc_new w _
theorem At.set (h : At w g t cs) (i : Nat) (v : Value) : At (w.setCell ⟨g, i, none⟩ v) g t (cs.setIfInBounds i v) := heap_setCell_same w g i cs t v h
theorem At.other (h : At w g t cs) {p : Addr} (hne : g ≠ p.block) (v : Value) : At (w.setCell p v) g t cs := (Below.heap_setCell w p v g hne).trans h
theorem At.below {B : Nat} (h : At w g t cs) (hb : Below B w w') (hg : g < B) : At w' g t cs := (hb.block g hg).trans h
end
def c4 (a b c d : Nat) : Array Value := #[.int .u64 a, .int .u64 b, .int .u64 c, .int .u64 d]
/-- A set lies in block g. -/
def SetAt (w : World) (g : Nat) (t : TypeId) (s : St) : Prop := At w g t #[.int .u64 s.w0, .int .u64 s.w1, .int .u64 s.w2, .int .u64 s.w3]
theorem SetAt.cells {w : World} {g : Nat} {t : TypeId} {s : St} (h : SetAt w g t s) :
    w.cell? ⟨g, 0, none⟩ = some (.int .u64 s.w0) ∧ w.cell? ⟨g, 1, none⟩ = some (.int .u64 s.w1) ∧ w.cell? ⟨g, 2, none⟩ = some (.int .u64 s.w2) ∧ w.cell? ⟨g, 3, none⟩ = some (.int .u64 s.w3) :=
  ⟨At.cell h 0, At.cell h 1, At.cell h 2, At.cell h 3⟩
theorem SetAt.frees {w : World} {g : Nat} {t : TypeId} {s : St} (h : SetAt w g t s) :
    w.frozen? ⟨g, 0, none⟩ = false ∧ w.frozen? ⟨g, 1, none⟩ = false ∧ w.frozen? ⟨g, 2, none⟩ = false ∧ w.frozen? ⟨g, 3, none⟩ = false :=
  ⟨At.free h 0, At.free h 1, At.free h 2, At.free h 3⟩
theorem SetAt.store {w : World} {g : Nat} {t : TypeId} {s : St} (h : SetAt w g t s) (u : St) :
    SetAt ((((w.setCell ⟨g, 0, none⟩ (.int .u64 u.w0)).setCell ⟨g, 1, none⟩ (.int .u64 u.w1)).setCell ⟨g, 2, none⟩ (.int .u64 u.w2)).setCell ⟨g, 3, none⟩ (.int .u64 u.w3)) g t u :=
  (((At.set h 0 _).set 1 _).set 2 _).set 3 _
theorem SetAt.below {B : Nat} {w w' : World} {g : Nat} {t : TypeId} {s : St} (h : SetAt w g t s) (hb : Below B w w') (hg : g < B) : SetAt w' g t s := At.below h hb hg
theorem SetAt.lt {w : World} {g : Nat} {t : TypeId} {s : St} (h : SetAt w g t s) : g < w.heap.size := At.lt h
theorem SetAt.next {w w' : World} {g : Nat} {t : TypeId} {s : St} (h : SetAt w g t s) (hb : Below w.heap.size w w') : SetAt w' g t s := At.below h hb h.lt
theorem SetAt.other {w : World} {g : Nat} {t : TypeId} {s : St} (h : SetAt w g t s) {g' : Nat} (hne : g ≠ g') (u : St) :
    SetAt ((((w.setCell ⟨g', 0, none⟩ (.int .u64 u.w0)).setCell ⟨g', 1, none⟩ (.int .u64 u.w1)).setCell ⟨g', 2, none⟩ (.int .u64 u.w2)).setCell ⟨g', 3, none⟩ (.int .u64 u.w3)) g t s :=
  At.other (At.other (At.other (At.other h hne _) hne _) hne _) hne _
theorem below_store {B : Nat} {W w : World} (h : Below B W w) {g : Nat} (hg : B ≤ g) (u : St) :
    Below B W ((((w.setCell ⟨g, 0, none⟩ (.int .u64 u.w0)).setCell ⟨g, 1, none⟩ (.int .u64 u.w1)).setCell ⟨g, 2, none⟩ (.int .u64 u.w2)).setCell ⟨g, 3, none⟩ (.int .u64 u.w3)) :=
  (((h.setCell hg _).setCell hg _).setCell hg _).setCell hg _
theorem SetAt.drew {w : World} {g : Nat} {t : TypeId} {s : St} (h : SetAt w g t s) : SetAt w.drew g t s := h
theorem SetAt.drewN {w : World} {g : Nat} {t : TypeId} {s : St} (h : SetAt w g t s) (n : Nat) : SetAt (w.drewN n) g t s := h
theorem SetAt.alloc {w : World} {g : Nat} {t : TypeId} {s : St} (h : SetAt w g t s) (o : Obj) : SetAt (w.alloc o) g t s := At.alloc h o
theorem SetAt.new (w : World) (t : TypeId) (s : St) : SetAt (w.alloc (.cells #[.int .u64 s.w0, .int .u64 s.w1, .int .u64 s.w2, .int .u64 s.w3] t)) w.heap.size t s := At.new _ _ _
theorem sets2 {w : World} {g g' : Nat} {t t' : TypeId} {s s' : St} (h : SetAt w g t s) (h' : SetAt w g' t' s') :
    w.cell? ⟨g, 0, none⟩ = some (.int .u64 s.w0) ∧ w.cell? ⟨g, 1, none⟩ = some (.int .u64 s.w1) ∧ w.cell? ⟨g, 2, none⟩ = some (.int .u64 s.w2) ∧ w.cell? ⟨g, 3, none⟩ = some (.int .u64 s.w3) ∧
    w.cell? ⟨g', 0, none⟩ = some (.int .u64 s'.w0) ∧ w.cell? ⟨g', 1, none⟩ = some (.int .u64 s'.w1) ∧ w.cell? ⟨g', 2, none⟩ = some (.int .u64 s'.w2) ∧ w.cell? ⟨g', 3, none⟩ = some (.int .u64 s'.w3) :=
  ⟨At.cell h 0, At.cell h 1, At.cell h 2, At.cell h 3, At.cell h' 0, At.cell h' 1, At.cell h' 2, At.cell h' 3⟩
/-- What a call leaves alone, where it began in the world w0: w, or w behind draws. -/
theorem SetAt.step {w w0 w' : World} {g : Nat} {t : TypeId} {s : St} (h : SetAt w g t s) (hb : Below w0.heap.size w0 w') (e : w0.heap = w.heap) : SetAt w' g t s := by
  have h0 : SetAt w0 g t s := by unfold SetAt At at h ⊢; rw [e]; exact h
  exact h0.next hb
theorem below_step {W w w0 w' : World} (h : Below W.heap.size W w) (hb : Below w0.heap.size w0 w') (e : w0.heap = w.heap) (e1 : w0.os = w.os) (e2 : w0.tape = w.tape) (e3 : w0.output = w.output) : Below W.heap.size W w' :=
  Below.trans ⟨e1.trans h.os, e2.trans h.tape, e3.trans h.output, by rw [e]; exact h.size, fun i hi => by rw [e]; exact h.block i hi⟩ (hb.mono (by rw [e]; exact h.size))
theorem bcell {W w1 : World} {B : Nat} (hb : Below B W w1) :
    (∀ b o, b < B → w1.cell? ⟨b, o, none⟩ = W.cell? ⟨b, o, none⟩) ∧ (∀ b o, b < B → w1.frozen? ⟨b, o, none⟩ = W.frozen? ⟨b, o, none⟩) :=
  ⟨fun b o h => hb.cell (p := ⟨b, o, none⟩) h, fun b o h => hb.frozen (p := ⟨b, o, none⟩) h⟩

theorem add_or (a r : Nat) (ha : U64 a) (hr : r < 64) (hb : a.testBit r = false) : (a + pw r) % 18446744073709551616 = a ||| pw r := by
  have hp := pw_u64 r hr
  have h0 : (BitVec.ofNat 64 a) &&& (BitVec.ofNat 64 (pw r)) = 0#64 := by
    apply BitVec.eq_of_getLsbD_eq
    intro i hi
    rw [BitVec.getLsbD_and, BitVec.getLsbD_ofNat, BitVec.getLsbD_ofNat]
    unfold pw
    rw [Nat.testBit_two_pow]
    by_cases e : r = i
    · subst e; simp [hb]
    · simp [e]
  have h1 := BitVec.add_eq_or_of_and_eq_zero _ _ h0
  have h2 := congrArg BitVec.toNat h1
  rw [BitVec.toNat_add, BitVec.toNat_or, BitVec.toNat_ofNat, BitVec.toNat_ofNat] at h2
  have e1 : a % 2 ^ 64 = a := Nat.mod_eq_of_lt ha
  have e2 : pw r % 2 ^ 64 = pw r := Nat.mod_eq_of_lt hp
  rw [e1, e2] at h2
  exact h2
theorem wrap_add_pw (a r : Nat) (ha : U64 a) (hr : r < 64) (hb : a.testBit r = false) : IntKind.u64.wrap ((a : Int) + ((pw r : Nat) : Int)) = ((a ||| pw r : Nat) : Int) := by
  rw [IntKind.wrap_u64, ← add_or a r ha hr hb]
  omega
theorem wrap_pw_two (k : Nat) (hk : k < 63) : IntKind.u64.wrap (((pw k : Nat) : Int) * 2) = ((pw (k + 1) : Nat) : Int) := by
  have h := pw_u64 (k + 1) (by omega)
  have e : pw (k + 1) = pw k * 2 := by unfold pw; rw [Nat.pow_succ]
  unfold U64 at h
  rw [e] at h ⊢
  rw [IntKind.wrap_u64]
  omega
theorem put_has (s : St) (hs : s.Ok) (b : Nat) (hb : b < 256) (h : s.has b = true) : s.put b = s := by
  refine St.ext_has (St.put_ok hs b) hs fun x hx => ?_
  rw [has_put s b x hb hx]
  by_cases e : x = b
  · subst e; simp [h]
  · simp [e]

/-- A slice of bytes that reads as l (its address is asked for only where it has bytes). -/
def IsBytes (W : World) (A : Option Addr) (n : Nat) (l : List Nat) : Prop :=
  n = l.length ∧ n ≤ 9223372036854775807 ∧ (∀ (k : Nat) (h : k < l.length), l[k] < 256) ∧
  (0 < n → ∃ b off, A = some ⟨b, off, none⟩ ∧ b < W.heap.size ∧ ∀ (k : Nat) (h : k < l.length), W.cell? ⟨b, off + k, none⟩ = some (.int .u8 l[k]))
theorem IsBytes.below {W w : World} {A : Option Addr} {n : Nat} {l : List Nat} (h : IsBytes W A n l) (hb : Below W.heap.size W w) : IsBytes w A n l :=
  ⟨h.1, h.2.1, h.2.2.1, fun hn => by
    obtain ⟨b, off, e, hlt, hc⟩ := h.2.2.2 hn
    exact ⟨b, off, e, Nat.lt_of_lt_of_le hlt hb.size, fun k hk => ((bcell hb).1 b _ hlt).trans (hc k hk)⟩⟩
theorem IsBytes.drew {W : World} {A : Option Addr} {n : Nat} {l : List Nat} (h : IsBytes W A n l) : IsBytes W.drew A n l := h

/- '==' on two sets. -/
def St.eqb (s t : St) : Bool := (s.w0 == t.w0) && ((s.w1 == t.w1) && ((s.w2 == t.w2) && (s.w3 == t.w3)))
theorem St.eqb_iff (s t : St) : s.eqb t = true ↔ s = t := by
  cases s; cases t
  simp [St.eqb]
theorem St.eqb_self (s : St) : s.eqb s = true := (St.eqb_iff s s).2 rfl
theorem beq_cast (a b : Nat) : ((a : Int) == (b : Int)) = (a == b) := by
  rw [Bool.eq_iff_iff]; simp only [beq_iff_eq]; omega
theorem run_set_eq {P : Program} {T E : TypeId} (hu : P.underlying T = some (.array 4 E)) (hi0 : (P.info? E).isSome = true) (hE : P.underlying E = some (.int .u64)) (hc : P.cellsOf E = 1) (d : Nat) (w : World) (s t : St) :
    (Op.equalIn (d + 2) T (.agg #[.int .u64 s.w0, .int .u64 s.w1, .int .u64 s.w2, .int .u64 s.w3]) (.agg #[.int .u64 t.w0, .int .u64 t.w1, .int .u64 t.w2, .int .u64 t.w3])).run P w = .ok (s.eqb t) w := by
  obtain ⟨i, hi⟩ := Option.isSome_iff_exists.1 hi0
  rw [show d + 2 = (d + 1) + 1 from rfl, run_equalIn_array w (d + 1) _ _ hu hi, hc]
  have hr : List.range 4 = [0, 1, 2, 3] := by decide
  rw [hr]
  have hp : ∀ (a0 a1 a2 a3 : Value), (part E #[a0, a1, a2, a3] 0).run P w = .ok a0 w ∧ (part E #[a0, a1, a2, a3] 1).run P w = .ok a1 w ∧
      (part E #[a0, a1, a2, a3] 2).run P w = .ok a2 w ∧ (part E #[a0, a1, a2, a3] 3).run P w = .ok a3 w := by
    intro a0 a1 a2 a3
    refine ⟨?_, ?_, ?_, ?_⟩ <;> simp [part, isAgg, run_underlying hE]
  obtain ⟨p0, p1, p2, p3⟩ := hp (.int .u64 s.w0) (.int .u64 s.w1) (.int .u64 s.w2) (.int .u64 s.w3)
  obtain ⟨q0, q1, q2, q3⟩ := hp (.int .u64 t.w0) (.int .u64 t.w1) (.int .u64 t.w2) (.int .u64 t.w3)
  have he : ∀ a b : Nat, (Op.equalIn (d + 1) E (.int .u64 a) (.int .u64 b)).run P w = .ok (a == b) w := by
    intro a b
    rw [run_equalIn_int w d E .u64 .u64 _ _ hE, ← beq_cast]
  have hs : ∀ (xs ys : Array Value) (k : Nat) (r : List Nat) (a b : Nat), (part E xs k).run P w = .ok (.int .u64 a) w → (part E ys k).run P w = .ok (.int .u64 b) w →
      (Op.eqItems (d + 1) E 1 xs ys (k :: r)).run P w = bif a == b then (Op.eqItems (d + 1) E 1 xs ys r).run P w else .ok false w := by
    intro xs ys k r a b h1 h2
    simp only [Op.eqItems, Sem.run_bind, Nat.mul_one, h1, h2, he, Result.andThen_ok]
    cases a == b <;> simp
  rw [hs _ _ 0 _ _ _ p0 q0, hs _ _ 1 _ _ _ p1 q1, hs _ _ 2 _ _ _ p2 q2, hs _ _ 3 _ _ _ p3 q3]
  have hn : ∀ xs ys : Array Value, (Op.eqItems (d + 1) E 1 xs ys []).run P w = .ok true w := fun xs ys => by simp [Op.eqItems]
  rw [hn]
  unfold St.eqb
  cases s.w0 == t.w0 <;> cases s.w1 == t.w1 <;> cases s.w2 == t.w2 <;> cases s.w3 == t.w3 <;> rfl

end Go.Proofs.YtehokjaojanieaaDoor
