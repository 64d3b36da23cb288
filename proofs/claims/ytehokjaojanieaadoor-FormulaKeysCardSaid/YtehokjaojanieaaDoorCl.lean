/- Plain facts on classes: which are right, how a set parts them, what cells they are in memory. No program is named here. -/
import Derived.Test.YtehokjaojanieaaDoorWords
import Derived.Deep.MidRow
namespace Go.Proofs.YtehokjaojanieaaDoor
open Go.RowKit

/-- A row of n cells, by place. -/
def arr (n : Nat) (g : Nat → Value) : Array Value := ((List.range n).map g).toArray
theorem arr_size (n : Nat) (g : Nat → Value) : (arr n g).size = n := by simp [arr]
theorem arr_get (n : Nat) (g : Nat → Value) (k : Nat) (h : k < n) : (arr n g)[k]? = some (g k) := by simp [arr, h]
theorem arr_congr {n : Nat} {g h : Nat → Value} (e : ∀ k, k < n → g k = h k) : arr n g = arr n h := by
  unfold arr; congr 1; apply List.map_congr_left; intro k hk; exact e k (by simpa using hk)
theorem arr_set (n : Nat) (g : Nat → Value) (k : Nat) (v : Value) : (arr n g).setIfInBounds k v = arr n (fun j => if j = k then v else g j) := by
  apply Array.ext_getElem?
  intro i
  rw [Array.getElem?_setIfInBounds]
  by_cases hi : i < n
  · rw [arr_get _ _ i hi, arr_get _ _ i hi, arr_size]
    by_cases e : k = i
    · subst e; simp [hi]
    · have e' : ¬ i = k := fun h => e h.symm
      simp [e, e']
  · have h1 : ∀ g' : Nat → Value, (arr n g')[i]? = none := fun g' => by rw [Array.getElem?_eq_none]; rw [arr_size]; omega
    rw [h1, h1, arr_size]
    by_cases e : k = i
    · subst e; simp [hi]
    · simp [e]
theorem arr_all (n : Nat) (g : Nat → Value) (h : ∀ k, (g k).oneCell' = true) : (arr n g).all (·.oneCell') = true := by
  rw [Array.all_eq_true_iff_forall_mem]
  intro v hv
  simp [arr] at hv
  obtain ⟨k, _, rfl⟩ := hv
  exact h k

section
variable {w w' W : World} {g B : Nat} {t : TypeId} {cs old : Array Value}
theorem At.row (h : At w g t old) (cs : Array Value) : At (w.setRow g cs) g t cs := setRow_heap w g old cs t (0, 0) h
theorem At.rowOther (h : At w g t cs) {g' : Nat} (hne : g ≠ g') (cs' : Array Value) : At (w.setRow g' cs') g t cs := (setRow_other w g' g cs' hne).trans h
theorem below_row (h : Below B W w) (hg : B ≤ g) (cs : Array Value) : Below B W (w.setRow g cs) :=
  ⟨h.os, h.tape, h.output, by rw [setRow_size]; exact h.size, fun i hi => (setRow_other w g i cs (by omega)).trans (h.block i hi)⟩
theorem at_new' (w : World) (g : Nat) (t : TypeId) {cs : Array Value} (h : g = w.heap.size) : At (w.alloc (.cells cs t)) g t cs := by
  subst h; exact At.new w t cs
theorem SetAt.other' {s : St} (h : SetAt w g t s) {p : Addr} (hne : g ≠ p.block) (v : Value) : SetAt (w.setCell p v) g t s := At.other h hne v
end

/-- Classes: which class a byte is of, and how many there are. -/
structure Cl where
  cl : Nat → Nat
  n : Int
def Cl.Ok (c : Cl) : Prop := ∀ k, k < 256 → c.cl k < 256
def Cl.g (c : Cl) (k : Nat) : Value := if k < 256 then .int .u8 (c.cl k : Nat) else .int .i64 c.n
def Cl.cells (c : Cl) : Array Value := arr 257 c.g
def Cl.rowl (c : Cl) : List Value := (List.range 256).map (fun k => .int .u8 (c.cl k : Nat))
theorem Cl.size (c : Cl) : c.cells.size = 257 := arr_size _ _
theorem Cl.one' (c : Cl) : c.cells.all (·.oneCell') = true := arr_all _ _ (fun k => by unfold Cl.g; split <;> rfl)
theorem Cl.get (c : Cl) (k : Nat) (h : k < 256) : c.cells[k]? = some (.int .u8 (c.cl k : Nat)) := by
  unfold Cl.cells; rw [arr_get _ _ k (by omega)]; simp [Cl.g, h]
theorem Cl.getN (c : Cl) : c.cells[256]? = some (.int .i64 c.n) := by
  unfold Cl.cells; rw [arr_get _ _ 256 (by omega)]; simp [Cl.g]
theorem Cl.ext_cells {c d : Cl} (h : ∀ k, k < 256 → c.cl k = d.cl k) (hn : c.n = d.n) : c.cells = d.cells := by
  unfold Cl.cells; apply arr_congr; intro k _; unfold Cl.g; split
  · rename_i h'; rw [h k h']
  · rw [hn]
theorem Cl.setAt (c : Cl) (k x : Nat) (hk : k < 256) : c.cells.setIfInBounds k (.int .u8 (x : Nat)) = (⟨fun j => if j = k then x else c.cl j, c.n⟩ : Cl).cells := by
  unfold Cl.cells; rw [arr_set]; apply arr_congr; intro j _; unfold Cl.g
  by_cases e : j = k
  · subst e; simp [hk]
  · simp [e]
theorem Cl.setN (c : Cl) (x : Int) : c.cells.setIfInBounds 256 (.int .i64 x) = (⟨c.cl, x⟩ : Cl).cells := by
  unfold Cl.cells; rw [arr_set]; apply arr_congr; intro j hj; unfold Cl.g
  by_cases e : j = 256
  · subst e; simp
  · simp [e, show j < 256 from by omega]
def Cl.zero : Cl := ⟨fun _ => 0, 0⟩
def Cl.one : Cl := ⟨fun _ => 0, 1⟩
theorem Cl.zero_ok : Cl.zero.Ok := fun _ _ => by show 0 < 256; omega
theorem Cl.one_ok : Cl.one.Ok := fun _ _ => by show 0 < 256; omega

/- Which classes are right. -/
def rstep (s : Option Nat) (x : Nat) : Option Nat := s.bind fun m => if m < x then none else if x = m then some (m + 1) else some m
def Cl.met (c : Cl) : Nat → Option Nat
  | 0 => some 0
  | k + 1 => rstep (c.met k) (c.cl k)
def Cl.right (c : Cl) : Bool := match c.met 256 with | none => false | some m => c.n == (m : Int)
theorem Cl.met_none (c : Cl) (k : Nat) (h : c.met k = none) : ∀ j, c.met (k + j) = none
  | 0 => h
  | j + 1 => by show rstep (c.met (k + j)) _ = none; rw [Cl.met_none c k h j]; rfl
theorem Cl.met_le (c : Cl) : ∀ k m, c.met k = some m → m ≤ k
  | 0, m, h => by simp [Cl.met] at h; omega
  | k + 1, m, h => by
    have h' : rstep (c.met k) (c.cl k) = some m := h
    cases hq : c.met k with
    | none => rw [hq] at h'; cases h'
    | some j =>
      have := Cl.met_le c k j hq
      rw [hq] at h'
      simp only [rstep, Option.bind_some] at h'
      split at h'
      · cases h'
      · split at h' <;> (injection h'; omega)
theorem Cl.met_wrong (c : Cl) (k m : Nat) (hk : k < 256) (h : c.met k = some m) (hx : m < c.cl k) : c.right = false := by
  have h1 : c.met (k + 1) = none := by show rstep (c.met k) _ = none; rw [h]; simp [rstep, hx]
  have h2 := Cl.met_none c (k + 1) h1 (255 - k)
  rw [show k + 1 + (255 - k) = 256 from by omega] at h2
  unfold Cl.right; rw [h2]
theorem Cl.met_eq (c : Cl) (k m : Nat) (h : c.met k = some m) (hx : c.cl k = m) : c.met (k + 1) = some (m + 1) := by
  show rstep (c.met k) _ = _; rw [h]; simp [rstep, hx]
theorem Cl.met_lt (c : Cl) (k m : Nat) (h : c.met k = some m) (hx : c.cl k < m) : c.met (k + 1) = some m := by
  show rstep (c.met k) _ = _; rw [h]; simp [rstep, show ¬ m < c.cl k from by omega, show ¬ c.cl k = m from by omega]
theorem Cl.right_of (c : Cl) (m : Nat) (h : c.met 256 = some m) : c.right = (c.n == (m : Int)) := by unfold Cl.right; rw [h]
theorem Cl.right_of' (c : Cl) (m : Nat) (h : c.met 256 = some m) : c.right = ((m : Int) == c.n) := by
  rw [Cl.right_of c m h, Bool.eq_iff_iff, beq_iff_eq, beq_iff_eq, eq_comm]

/- Keys in the order in which they come up. -/
def nub (f : Nat → Nat) : Nat → List Nat
  | 0 => []
  | k + 1 => if f k ∈ nub f k then nub f k else nub f k ++ [f k]
theorem nub_old {f : Nat → Nat} {k : Nat} (h : f k ∈ nub f k) : nub f (k + 1) = nub f k := by show (if _ then _ else _) = _; rw [if_pos h]
theorem nub_new {f : Nat → Nat} {k : Nat} (h : ¬ f k ∈ nub f k) : nub f (k + 1) = nub f k ++ [f k] := by show (if _ then _ else _) = _; rw [if_neg h]
theorem nub_length (f : Nat → Nat) : ∀ k, (nub f k).length ≤ k
  | 0 => Nat.le_refl _
  | k + 1 => by
    have := nub_length f k
    by_cases h : f k ∈ nub f k
    · rw [nub_old h]; omega
    · rw [nub_new h, List.length_append]; simp; omega
theorem nub_mem (f : Nat → Nat) (x : Nat) : ∀ k, x ∈ nub f k ↔ ∃ j, j < k ∧ f j = x
  | 0 => by simp [nub]
  | k + 1 => by
    have ih := nub_mem f x k
    have key : x ∈ nub f (k + 1) ↔ x ∈ nub f k ∨ f k = x := by
      by_cases h : f k ∈ nub f k
      · rw [nub_old h]; constructor
        · exact Or.inl
        · rintro (h' | rfl)
          · exact h'
          · exact h
      · rw [nub_new h, List.mem_append]; simp [eq_comm]
    rw [key, ih]; constructor
    · rintro (⟨j, hj, e⟩ | e)
      · exact ⟨j, by omega, e⟩
      · exact ⟨k, by omega, e⟩
    · rintro ⟨j, hj, e⟩
      by_cases h : j = k
      · subst h; exact .inr e
      · exact .inl ⟨j, by omega, e⟩
theorem nub_idx_step (f : Nat → Nat) (k x : Nat) (h : x ∈ nub f k) : (nub f (k + 1)).idxOf x = (nub f k).idxOf x := by
  by_cases h' : f k ∈ nub f k
  · rw [nub_old h']
  · rw [nub_new h', List.idxOf_append, if_pos h]
theorem nub_idx (f : Nat → Nat) (x k : Nat) (h : x ∈ nub f k) : ∀ j, (nub f (k + j)).idxOf x = (nub f k).idxOf x
  | 0 => rfl
  | j + 1 => by
    have hm : x ∈ nub f (k + j) := by rw [nub_mem] at h ⊢; obtain ⟨i, hi, e⟩ := h; exact ⟨i, by omega, e⟩
    rw [show k + (j + 1) = (k + j) + 1 from rfl, nub_idx_step f _ x hm, nub_idx f x k h j]
theorem nub_idx_new (f : Nat → Nat) (k : Nat) (h : ¬ f k ∈ nub f k) : (nub f (k + 1)).idxOf (f k) = (nub f k).length := by
  rw [nub_new h, List.idxOf_append, if_neg h]; simp
theorem nub_lt (f : Nat → Nat) (k x : Nat) (h : x ∈ nub f k) : (nub f k).idxOf x < k := Nat.lt_of_lt_of_le (List.idxOf_lt_length_of_mem h) (nub_length f k)
theorem idx_inj {l : List Nat} {x y : Nat} (hx : x ∈ l) (hy : y ∈ l) (h : l.idxOf x = l.idxOf y) : x = y := by
  have h1 := List.getElem_idxOf (List.idxOf_lt_length_of_mem hx)
  have h2 := List.getElem_idxOf (List.idxOf_lt_length_of_mem hy)
  rw [← h1, ← h2]; congr 1

/-- A byte's key: its class, and whether the set has it. -/
def Cl.key (c : Cl) (s : St) (b : Nat) : Nat := 2 * c.cl b + (if s.has b then 1 else 0)
theorem Cl.key_lt (c : Cl) (hc : c.Ok) (s : St) (b : Nat) (hb : b < 256) : c.key s b < 512 := by
  have := hc b hb; unfold Cl.key; split <;> omega
theorem Cl.key_eq (c : Cl) (s : St) (a b : Nat) : c.key s a = c.key s b ↔ c.cl a = c.cl b ∧ s.has a = s.has b := by
  unfold Cl.key
  cases s.has a <;> cases s.has b <;> simp <;> omega
/-- What 'part' has laid when the first k bytes are done. -/
def Cl.partTo (c : Cl) (s : St) (k : Nat) : Cl := ⟨fun b => if b < k then (nub (c.key s) k).idxOf (c.key s b) else 0, ((nub (c.key s) k).length : Nat)⟩
def Cl.part (c : Cl) (s : St) : Cl := c.partTo s 256
theorem Cl.partTo_zero (c : Cl) (s : St) : c.partTo s 0 = Cl.zero := by
  unfold Cl.partTo Cl.zero; simp [nub]
theorem Cl.part_at (c : Cl) (s : St) (b : Nat) (hb : b < 256) : (c.part s).cl b = (nub (c.key s) 256).idxOf (c.key s b) := by
  show (if b < 256 then _ else _) = _; rw [if_pos hb]
theorem Cl.part_mem (c : Cl) (s : St) (b k : Nat) (hb : b < k) : c.key s b ∈ nub (c.key s) k := (nub_mem _ _ _).2 ⟨b, hb, rfl⟩
theorem Cl.part_ok (c : Cl) (s : St) : (c.part s).Ok := fun b hb => by
  rw [Cl.part_at _ _ _ hb]; exact nub_lt _ _ _ (Cl.part_mem c s b 256 hb)
theorem Cl.part_same (c : Cl) (s : St) (a b : Nat) (ha : a < 256) (hb : b < 256) : (c.part s).cl a = (c.part s).cl b ↔ c.cl a = c.cl b ∧ s.has a = s.has b := by
  rw [Cl.part_at _ _ _ ha, Cl.part_at _ _ _ hb, ← Cl.key_eq]
  constructor
  · exact idx_inj (Cl.part_mem c s a 256 ha) (Cl.part_mem c s b 256 hb)
  · intro h; rw [h]
theorem Cl.part_met (c : Cl) (s : St) : ∀ k, k ≤ 256 → (c.part s).met k = some (nub (c.key s) k).length
  | 0, _ => rfl
  | k + 1, hk => by
    have ih := Cl.part_met c s k (by omega)
    by_cases h : c.key s k ∈ nub (c.key s) k
    · rw [nub_old h]
      refine Cl.met_lt _ _ _ ih ?_
      rw [Cl.part_at _ _ _ (by omega)]
      have := nub_idx (c.key s) _ k h (256 - k)
      rw [show k + (256 - k) = 256 from by omega] at this
      rw [this]
      exact List.idxOf_lt_length_of_mem h
    · rw [nub_new h, List.length_append]
      refine Cl.met_eq _ _ _ ih ?_
      rw [Cl.part_at _ _ _ (by omega)]
      have := nub_idx (c.key s) (c.key s k) (k + 1) (Cl.part_mem c s k (k + 1) (by omega)) (255 - k)
      rw [show k + 1 + (255 - k) = 256 from by omega] at this
      rw [this, nub_idx_new _ _ h]
theorem Cl.part_right (c : Cl) (s : St) : (c.part s).right = true := by
  rw [Cl.right_of _ _ (Cl.part_met c s 256 (Nat.le_refl _))]
  show ((((nub (c.key s) 256).length : Nat) : Int) == _) = true
  simp
theorem Cl.one_met : ∀ k, 0 < k → Cl.one.met k = some 1
  | 1, _ => rfl
  | k + 2, _ => Cl.met_lt _ _ _ (Cl.one_met (k + 1) (by omega)) (by show 0 < 1; omega)
theorem Cl.one_right : Cl.one.right = true := by
  rw [Cl.right_of _ _ (Cl.one_met 256 (by omega))]; rfl

/- Classes made of sets. -/
def Cl.make (l : List St) : Cl := l.foldl Cl.part Cl.one
def alike (l : List St) (a b : Nat) : Bool := l.all (fun s => s.has a == s.has b)
theorem fold_same (l : List St) (a b : Nat) (ha : a < 256) (hb : b < 256) : ∀ c : Cl, (l.foldl Cl.part c).cl a = (l.foldl Cl.part c).cl b ↔ c.cl a = c.cl b ∧ alike l a b = true := by
  induction l with
  | nil => intro c; simp [alike]
  | cons s r ih =>
    intro c
    rw [List.foldl_cons, ih, Cl.part_same _ _ _ _ ha hb]
    simp [alike, and_assoc]
theorem make_same (l : List St) (a b : Nat) (ha : a < 256) (hb : b < 256) : ((Cl.make l).cl a == (Cl.make l).cl b) = alike l a b := by
  have h := fold_same l a b ha hb Cl.one
  rw [Bool.eq_iff_iff, beq_iff_eq]
  unfold Cl.make
  rw [h]
  exact ⟨fun h => h.2, fun h => ⟨rfl, h⟩⟩
theorem fold_right (l : List St) : ∀ c : Cl, c.right = true → (l.foldl Cl.part c).right = true := by
  induction l with
  | nil => exact fun c h => h
  | cons s r ih => exact fun c _ => ih _ (Cl.part_right c s)
theorem make_right (l : List St) : (Cl.make l).right = true := fold_right l _ Cl.one_right
theorem fold_cok (l : List St) : ∀ c : Cl, c.Ok → (l.foldl Cl.part c).Ok := by
  induction l with
  | nil => exact fun c h => h
  | cons s r ih => exact fun c _ => ih _ (Cl.part_ok c s)
theorem make_ok (l : List St) : (Cl.make l).Ok := fold_cok l _ Cl.one_ok
theorem make_take (l : List St) (k : Nat) (h : k < l.length) : Cl.make (l.take (k + 1)) = (Cl.make (l.take k)).part l[k] := by
  unfold Cl.make; rw [List.take_succ_eq_append_getElem h, List.foldl_append]; rfl
theorem make_snoc (l : List St) (s : St) : Cl.make (l ++ [s]) = (Cl.make l).part s := by
  unfold Cl.make; rw [List.foldl_append]; rfl

/- The rows of 'given' and 'number' while 'part' runs. -/
def giv (l : List Nat) : Array Value := arr 512 (fun x => .bool (decide (x ∈ l)))
def num (l : List Nat) : Array Value := arr 512 (fun x => .int .u8 ((if x ∈ l then l.idxOf x else 0 : Nat) : Nat))
theorem giv_get (l : List Nat) (x : Nat) (h : x < 512) : (giv l)[x]? = some (.bool (decide (x ∈ l))) := arr_get _ _ x h
theorem num_get (l : List Nat) (x : Nat) (h : x < 512) (hm : x ∈ l) : (num l)[x]? = some (.int .u8 (l.idxOf x : Nat)) := by
  unfold num; rw [arr_get _ _ x h]; simp [hm]
theorem giv_new (l : List Nat) (x : Nat) : (giv l).setIfInBounds x (.bool true) = giv (l ++ [x]) := by
  unfold giv; rw [arr_set]; apply arr_congr; intro j _
  by_cases e : j = x
  · subst e; simp
  · simp [e]
theorem num_new (l : List Nat) (x : Nat) (h : ¬ x ∈ l) : (num l).setIfInBounds x (.int .u8 (l.length : Nat)) = num (l ++ [x]) := by
  unfold num; rw [arr_set]; apply arr_congr; intro j _
  by_cases e : j = x
  · subst e; simp [List.idxOf_append, h]
  · by_cases hj : j ∈ l
    · simp [e, hj, List.idxOf_append]
    · simp [e, hj]
theorem giv_size (l : List Nat) : (giv l).size = 512 := arr_size _ _
theorem num_size (l : List Nat) : (num l).size = 512 := arr_size _ _
/-- The step of 'part' at byte k: the number of its key is laid. -/
theorem partTo_step (c : Cl) (s : St) (k : Nat) (hk : k < 256) (r : Nat) (hr : r = (nub (c.key s) (k + 1)).idxOf (c.key s k)) :
    ((⟨(c.partTo s k).cl, ((nub (c.key s) (k + 1)).length : Nat)⟩ : Cl).cells).setIfInBounds k (.int .u8 (r : Nat)) = (c.partTo s (k + 1)).cells := by
  rw [Cl.setAt _ _ _ hk]
  apply Cl.ext_cells
  · intro j _
    show (if j = k then r else if j < k then _ else 0) = if j < k + 1 then _ else 0
    by_cases e : j = k
    · subst e; simp [hr]
    · by_cases h : j < k
      · rw [if_neg e, if_pos h, if_pos (by omega), nub_idx_step _ _ _ (Cl.part_mem c s j k h)]
      · rw [if_neg e, if_neg h, if_neg (by omega)]
  · rfl
theorem partTo_n (c : Cl) (s : St) (k : Nat) (x : Int) : ((c.partTo s k).cells).setIfInBounds 256 (.int .i64 x) = (⟨(c.partTo s k).cl, x⟩ : Cl).cells := Cl.setN _ _
theorem partTo_same (c : Cl) (s : St) (k : Nat) (h : c.key s k ∈ nub (c.key s) k) : (c.partTo s k) = (⟨(c.partTo s k).cl, ((nub (c.key s) (k + 1)).length : Nat)⟩ : Cl) := by
  rw [nub_old h]; rfl

/-- A slice of sets that reads as l (its address is asked for only where it has sets). -/
def IsSets (W : World) (A : Option Addr) (n : Nat) (l : List St) : Prop :=
  n = l.length ∧ n ≤ 9223372036854775807 ∧ (∀ (k : Nat) (h : k < l.length), l[k].Ok) ∧
  (0 < n → ∃ b off, A = some ⟨b, off, none⟩ ∧ b < W.heap.size ∧ ∀ (k : Nat) (h : k < l.length),
    W.cell? ⟨b, off + k * 4, none⟩ = some (.int .u64 l[k].w0) ∧ W.cell? ⟨b, off + k * 4 + 1, none⟩ = some (.int .u64 l[k].w1) ∧ W.cell? ⟨b, off + k * 4 + 2, none⟩ = some (.int .u64 l[k].w2) ∧ W.cell? ⟨b, off + k * 4 + 3, none⟩ = some (.int .u64 l[k].w3))
theorem IsSets.below {W w : World} {A : Option Addr} {n : Nat} {l : List St} {B : Nat} (h : IsSets W A n l) (hB : W.heap.size ≤ B) (hb : Below B W w) : IsSets w A n l :=
  ⟨h.1, h.2.1, h.2.2.1, fun hn => by
    obtain ⟨b, off, e, hlt, hc⟩ := h.2.2.2 hn
    refine ⟨b, off, e, Nat.lt_of_lt_of_le hlt hb.size, fun k hk => ?_⟩
    obtain ⟨c0, c1, c2, c3⟩ := hc k hk
    exact ⟨((bcell hb).1 b _ (by omega)).trans c0, ((bcell hb).1 b _ (by omega)).trans c1, ((bcell hb).1 b _ (by omega)).trans c2, ((bcell hb).1 b _ (by omega)).trans c3⟩⟩
theorem IsSets.next {W w : World} {A : Option Addr} {n : Nat} {l : List St} (h : IsSets W A n l) (hb : Below W.heap.size W w) : IsSets w A n l := h.below (Nat.le_refl _) hb
theorem IsSets.drew {W : World} {A : Option Addr} {n : Nat} {l : List St} (h : IsSets W A n l) : IsSets W.drew A n l := h
theorem IsSets.nil (W : World) (A : Option Addr) : IsSets W A 0 [] := ⟨rfl, by omega, fun k h => by simp at h, fun h => by omega⟩
theorem wpList_build_as {P : Program} {ops : Array Oper} {rest : List Oper} {o : Oper} {a : Act} {w : World} {Q : Exit → Act → World → Prop} (hg : o.guard = none) (t : TypeId) (parts : Array (Nat × Operand)) (ho : o.op = .build t parts)
    (cs : Array Value) (hf : P.built t (parts.map fun (i, x) => (i, a.eval x)).toList = some cs)
    (h : wpList P ops Q rest (a.put o.dst (.agg cs)) w) : wpList P ops Q (o :: rest) a w :=
  wpList_build hg t parts ho (by rw [hf]; rfl) (by rw [hf]; exact h)

/- '==' on two classes that are the same. -/
section
variable {P : Program}
theorem run_row_self {E : TypeId} (hE : P.underlying E = some (.int .u8)) (d : Nat) (w : World) (xs : Array Value) : ∀ (is : List Nat), (∀ i ∈ is, ∃ x : Int, xs[i]? = some (.int .u8 x)) →
    (Op.eqItems (d + 1) E 1 xs xs is).run P w = .ok true w
  | [], _ => by simp [Op.eqItems]
  | i :: is, h => by
    obtain ⟨x, hx⟩ := h i (by simp)
    have hp : (part E xs i).run P w = .ok (.int .u8 x) w := by simp [part, isAgg, run_underlying hE, hx]
    simp only [Op.eqItems, Sem.run_bind, Nat.mul_one, hp, run_equalIn_int w d E .u8 .u8 x x hE, Result.andThen_ok]
    simpa using run_row_self hE d w xs is (fun j hj => h j (by simp [hj]))
end

end Go.Proofs.YtehokjaojanieaaDoor
