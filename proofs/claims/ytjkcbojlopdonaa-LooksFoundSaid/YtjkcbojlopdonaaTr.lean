/- Patterns as they lie in memory: a node's own cells, and where its parts lie; how deep, how great, formed, alike. No program is named here. -/
import Derived.Test.YtjkcbojlopdonaaWords
import Derived.Test.YtjkcbojlopdonaaMaa
namespace Go.Proofs.Ytjkcbojlopdonaa
open Go.RowKit

inductive Tr where
  | node (kind : Int) (set : St) (A : Option Addr) (n c : Nat) (parts : List Tr) (lo hi : Int) (neg : Bool) : Tr
def Tr.kind : Tr → Int | .node k _ _ _ _ _ _ _ _ => k
def Tr.set : Tr → St | .node _ s _ _ _ _ _ _ _ => s
def Tr.addr : Tr → Option Addr | .node _ _ A _ _ _ _ _ _ => A
def Tr.n : Tr → Nat | .node _ _ _ n _ _ _ _ _ => n
def Tr.cap : Tr → Nat | .node _ _ _ _ c _ _ _ _ => c
def Tr.parts : Tr → List Tr | .node _ _ _ _ _ p _ _ _ => p
def Tr.lo : Tr → Int | .node _ _ _ _ _ _ l _ _ => l
def Tr.hi : Tr → Int | .node _ _ _ _ _ _ _ h _ => h
def Tr.neg : Tr → Bool | .node _ _ _ _ _ _ _ _ g => g
/-- The cells of a node. -/
def Tr.cs (t : Tr) : List Value := [.int .i64 t.kind, .int .u64 t.set.w0, .int .u64 t.set.w1, .int .u64 t.set.w2, .int .u64 t.set.w3, .slice t.addr t.n t.cap, .int .i64 t.lo, .int .i64 t.hi, .bool t.neg]
theorem Tr.cs_length (t : Tr) : t.cs.length = 9 := rfl
def I64 (x : Int) : Prop := -9223372036854775808 ≤ x ∧ x ≤ 9223372036854775807
/-- A pattern of at most k levels lies in memory. -/
def Tr.In (w : World) : Nat → Tr → Prop
  | 0, _ => False
  | k + 1, t => (t.set.Ok ∧ I64 t.kind ∧ I64 t.lo ∧ I64 t.hi) ∧ (t.n = t.parts.length ∧ t.n ≤ 9223372036854775807) ∧ (0 < t.n → ∃ b off, t.addr = some ⟨b, off, none⟩ ∧ b < w.heap.size ∧ ∀ (j : Nat) (h : j < t.parts.length), w.rangeAt b (off + j * 9) t.parts[j].cs) ∧
    ∀ (j : Nat) (h : j < t.parts.length), Tr.In w k t.parts[j]
theorem range_below {w w' : World} {B b o : Nat} {cs : List Value} (h : w.rangeAt b o cs) (hb : b < w.heap.size) (hB : w.heap.size ≤ B) (hw : Below B w w') : w'.rangeAt b o cs := fun j v hv => by
  rw [(bcell hw).1 b (o + j) (by omega)]; exact h j v hv
theorem Tr.In.below {w w' : World} {B : Nat} (hB : w.heap.size ≤ B) (hw : Below B w w') : ∀ (k : Nat) (t : Tr), Tr.In w k t → Tr.In w' k t
  | 0, _, h => h.elim
  | k + 1, t, h => by
    obtain ⟨h0, hn, hc, hp⟩ := h
    refine ⟨h0, hn, fun h0 => ?_, fun j hj => Tr.In.below hB hw k _ (hp j hj)⟩
    obtain ⟨b, off, e, hlt, hr⟩ := hc h0
    exact ⟨b, off, e, Nat.lt_of_lt_of_le hlt hw.size, fun j hj => range_below (hr j hj) hlt hB hw⟩
theorem Tr.In.next {w w' : World} {k : Nat} {t : Tr} (h : Tr.In w k t) (hw : Below w.heap.size w w') : Tr.In w' k t := Tr.In.below (Nat.le_refl _) hw k t h
theorem Tr.In.same {w w' : World} (e : w'.heap = w.heap) : ∀ (k : Nat) (t : Tr), Tr.In w k t → Tr.In w' k t
  | 0, _, h => h.elim
  | k + 1, t, h => by
    obtain ⟨h0, hn, hc, hp⟩ := h
    refine ⟨h0, hn, fun h0 => ?_, fun j hj => Tr.In.same e k _ (hp j hj)⟩
    obtain ⟨b, off, ea, hlt, hr⟩ := hc h0
    exact ⟨b, off, ea, by rw [e]; exact hlt, fun j hj i v hv => by have := hr j hj i v hv; unfold World.cell? at this ⊢; rw [e]; exact this⟩
theorem Tr.In.step {w w0 w' : World} {k : Nat} {t : Tr} (h : Tr.In w k t) (hb : Below w0.heap.size w0 w') (e : w0.heap = w.heap) : Tr.In w' k t := (Tr.In.same e k t h).next hb
theorem Tr.In.drew {w : World} {k : Nat} {t : Tr} (h : Tr.In w k t) : Tr.In w.drew k t := Tr.In.same (w := w) (w' := w.drew) (heap_drew w) k t h
theorem Tr.In.up {w : World} : ∀ (k : Nat) (t : Tr), Tr.In w k t → Tr.In w (k + 1) t
  | 0, _, h => h.elim
  | k + 1, t, h => by
    obtain ⟨h0, hn, hc, hp⟩ := h
    exact ⟨h0, hn, hc, fun j hj => Tr.In.up k _ (hp j hj)⟩
theorem At.tr_cell {w : World} {g : Nat} {t : TypeId} {r : Tr} (h : At w g t r.cs.toArray) :
    w.cell? ⟨g, 0, none⟩ = some (.int .i64 r.kind) ∧ w.cell? ⟨g, 5, none⟩ = some (.slice r.addr r.n r.cap) ∧ w.cell? ⟨g, 6, none⟩ = some (.int .i64 r.lo) ∧ w.cell? ⟨g, 7, none⟩ = some (.int .i64 r.hi) ∧ w.cell? ⟨g, 8, none⟩ = some (.bool r.neg) :=
  ⟨At.cell h 0, At.cell h 5, At.cell h 6, At.cell h 7, At.cell h 8⟩

/- How deep. -/
def maxl (l : List Int) : Int := l.foldl max 0
def deepS : Nat → Int → Tr → Int
  | 0, _, _ => 0
  | k + 1, m, t => if m < 1 then 1 else 1 + maxl (t.parts.map (deepS k (m - 1)))
theorem maxl_snoc (l : List Int) (x : Int) : maxl (l ++ [x]) = max (maxl l) x := by unfold maxl; rw [List.foldl_append]; rfl
theorem maxl_le (l : List Int) (m : Int) (h0 : 0 ≤ m) (h : ∀ x ∈ l, x ≤ m) : maxl l ≤ m := by
  unfold maxl
  have : ∀ a : Int, a ≤ m → l.foldl max a ≤ m := by
    induction l with
    | nil => exact fun a ha => ha
    | cons x r ih =>
      intro a ha
      rw [List.foldl_cons]
      exact ih (fun y hy => h y (List.mem_cons_of_mem _ hy)) _ (by have := h x (by simp); omega)
  exact this 0 h0
theorem maxl_ge (l : List Int) : 0 ≤ maxl l := by
  unfold maxl
  have : ∀ a : Int, 0 ≤ a → 0 ≤ l.foldl max a := by
    induction l with
    | nil => exact fun a ha => ha
    | cons x r ih => intro a ha; rw [List.foldl_cons]; exact ih _ (by omega)
  exact this 0 (Int.le_refl _)
theorem deepS_le : ∀ (k : Nat) (m : Int) (t : Tr), 0 ≤ m → deepS k m t ≤ m + 1
  | 0, m, _, h => by show (0 : Int) ≤ _; omega
  | k + 1, m, t, h => by
    show (if m < 1 then 1 else 1 + maxl _) ≤ m + 1
    split
    · omega
    · have := maxl_le (t.parts.map (deepS k (m - 1))) m (by omega) (by
        intro x hx
        rw [List.mem_map] at hx
        obtain ⟨p, _, rfl⟩ := hx
        have := deepS_le k (m - 1) p (by omega)
        omega)
      omega
theorem deepS_ge (k : Nat) (m : Int) (t : Tr) : 0 ≤ deepS k m t := by
  cases k with
  | zero => exact Int.le_refl _
  | succ k =>
    show 0 ≤ (if m < 1 then 1 else 1 + maxl _)
    have := maxl_ge (t.parts.map (deepS k (m - 1)))
    split <;> omega
/-- The greatest of the first j parts. -/
def deepTo (k : Nat) (m : Int) (t : Tr) (j : Nat) : Int := maxl ((t.parts.take j).map (deepS k m))
theorem deepTo_zero (k : Nat) (m : Int) (t : Tr) : deepTo k m t 0 = 0 := rfl
theorem deepTo_succ (k : Nat) (m : Int) (t : Tr) (j : Nat) (h : j < t.parts.length) : deepTo k m t (j + 1) = max (deepTo k m t j) (deepS k m t.parts[j]) := by
  unfold deepTo; rw [List.take_succ_eq_append_getElem h, List.map_append, List.map_singleton, maxl_snoc]
theorem deepTo_all (k : Nat) (m : Int) (t : Tr) (h : ¬ m < 1) : 1 + deepTo k (m - 1) t t.parts.length = deepS (k + 1) m t := by
  unfold deepTo; rw [List.take_length]; show _ = (if m < 1 then 1 else 1 + maxl _); rw [if_neg h]
theorem deepTo_le (k : Nat) (m : Int) (t : Tr) (j : Nat) (h : 0 ≤ m) : deepTo k m t j ≤ m + 1 := by
  refine maxl_le _ _ (by omega) fun x hx => ?_
  rw [List.mem_map] at hx
  obtain ⟨p, _, rfl⟩ := hx
  exact deepS_le k m p h
theorem deepTo_ge (k : Nat) (m : Int) (t : Tr) (j : Nat) : 0 ≤ deepTo k m t j := maxl_ge _

end Go.Proofs.Ytjkcbojlopdonaa
