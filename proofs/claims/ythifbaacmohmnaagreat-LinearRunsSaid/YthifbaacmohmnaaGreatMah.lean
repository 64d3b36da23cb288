/- Joined: NormTable, Fm, FmLess. -/
import Derived.Test.YthifbaacmohmnaaGreatMag
import Derived.Test.YthifbaacmohmnaaGreatProg
import Derived.Test.YthifbaacmohmnaaGreatMaa
import Derived.Test.YthifbaacmohmnaaGreatMab
import Derived.Deep.QuietTactic
import Derived.BigQuiet
/- What putting nodes together matches: mathematics; no program is named. -/
namespace Go.Proofs.YthifbaacmohmnaaGreat
open Go.RowKit
set_option linter.unusedSimpArgs false
set_option linter.unusedVariables false
set_option linter.unusedSectionVars false

/- Some number of times, as ways from place to place. -/
inductive Ways (f : Tbl) (n i : Nat) : Nat → Prop
  | here : Ways f n i i
  | step {m j : Nat} : Ways f n i m → m < n → i ≤ m → m ≤ j → f m j = true → Ways f n i j
theorem Ways.le {f : Tbl} {n i j : Nat} (h : Ways f n i j) : i ≤ j := by
  cases h with
  | here => exact Nat.le_refl _
  | step _ _ h1 h2 _ => omega
theorem any_ways {f : Tbl} {n i : Nat} : ∀ (m j : Nat), anyTo f n m i j = true → Ways f n i j
  | 0, j, h => by
    obtain rfl := (eqF_iff _ _).1 h
    exact .here
  | m + 1, j, h => by
    have h : (anyTo f n m i j || thenF (anyTo f n m) f n i j) = true := h
    rw [Bool.or_eq_true] at h
    rcases h with h | h
    · exact any_ways m j h
    · obtain ⟨q, q0, q1, q2, q3, q4⟩ := (then_iff _ _ _ _ _).1 h
      exact .step (any_ways m q q3) q0 q1 q2 q4
theorem any_self (f : Tbl) (n i : Nat) : ∀ m, anyTo f n m i i = true
  | 0 => (eqF_iff _ _).2 rfl
  | m + 1 => by show (anyTo f n m i i || _) = true; rw [any_self f n i m, Bool.true_or]
theorem ways_any {f : Tbl} {n i j : Nat} (h : Ways f n i j) : ∀ m, j ≤ i + m → anyTo f n m i j = true := by
  induction h with
  | here => exact fun m _ => any_self f n i m
  | @step q j hw h0 h1 h2 h3 ih =>
    intro m hm
    by_cases e : q = j
    · subst e; exact ih m hm
    · cases m with
      | zero => omega
      | succ m =>
        show (anyTo f n m i j || thenF (anyTo f n m) f n i j) = true
        rw [Bool.or_eq_true]
        exact Or.inr ((then_iff _ _ _ _ _).2 ⟨q, h0, h1, h2, ih m (by omega), h3⟩)
theorem any_iff {f : Tbl} {n i j : Nat} (hj : j < n) : anyTo f n n i j = true ↔ Ways f n i j := ⟨any_ways n j, fun h => ways_any h n (by omega)⟩
theorem Ways.trans {f : Tbl} {n i j k : Nat} (h : Ways f n i j) (h' : Ways f n j k) : Ways f n i k := by
  induction h' with
  | here => exact h
  | step hw h0 h1 h2 h3 ih =>
    exact .step ih h0 ih.le h2 h3
theorem any_le {f : Tbl} {n i j : Nat} (m : Nat) (h : anyTo f n m i j = true) : i ≤ j := (any_ways m j h).le
section
variable (l bits : List Nat) {ns : List Nd} (hf : FineN ns)
theorem T_eq {x : Int} (hf : FineN ns) (hx : isIn ns x) : nodeT l bits ns x = nodeF l bits (nodesF l bits ns ns.length) (ndAt ns x.toNat) := by
  obtain ⟨j, rfl⟩ : ∃ j : Nat, x = (j : Int) := ⟨x.toNat, by unfold isIn at hx; omega⟩
  exact nodeT_eq l bits ns (fun j hj => hf.ok j hj) j (by unfold isIn at hx; omega)
section
variable {l bits}
theorem T_no {x : Int} (hf : FineN ns) (hx : isIn ns x) (k : kd ns x = 0) : nodeT l bits ns x = noF := by
  rw [T_eq l bits hf hx]; unfold nodeF; unfold kd at k
  rw [if_neg (by omega), if_neg (by omega), if_neg (by omega), if_neg (by omega), if_neg (by omega), if_neg (by omega), if_neg (by omega), if_neg (by omega)]
theorem T_em {x : Int} (hf : FineN ns) (hx : isIn ns x) (k : kd ns x = 1) : nodeT l bits ns x = eqF := by
  rw [T_eq l bits hf hx]; unfold nodeF; unfold kd at k; rw [if_pos k]
theorem T_bytes {x : Int} (hf : FineN ns) (hx : isIn ns x) (k : kd ns x = 2) : nodeT l bits ns x = byteF (ndAt ns x.toNat).set l := by
  rw [T_eq l bits hf hx]; unfold nodeF; unfold kd at k; rw [if_neg (by omega), if_pos k]
theorem T_cat {x : Int} (hf : FineN ns) (hx : isIn ns x) (k : kd ns x = 3) : nodeT l bits ns x = thenF (nodeT l bits ns (ka ns x)) (nodeT l bits ns (kb ns x)) (l.length + 1) := by
  rw [T_eq l bits hf hx]; unfold nodeF; unfold kd at k; rw [if_neg (by omega), if_neg (by omega), if_pos k]; rfl
theorem T_or {x : Int} (hf : FineN ns) (hx : isIn ns x) (k : kd ns x = 4) : nodeT l bits ns x = fun i j => nodeT l bits ns (ka ns x) i j || nodeT l bits ns (kb ns x) i j := by
  rw [T_eq l bits hf hx]; unfold nodeF; unfold kd at k; rw [if_neg (by omega), if_neg (by omega), if_neg (by omega), if_pos k]; rfl
theorem T_and {x : Int} (hf : FineN ns) (hx : isIn ns x) (k : kd ns x = 5) : nodeT l bits ns x = fun i j => nodeT l bits ns (ka ns x) i j && nodeT l bits ns (kb ns x) i j := by
  rw [T_eq l bits hf hx]; unfold nodeF; unfold kd at k; rw [if_neg (by omega), if_neg (by omega), if_neg (by omega), if_neg (by omega), if_pos k]; rfl
theorem T_not {x : Int} (hf : FineN ns) (hx : isIn ns x) (k : kd ns x = 6) : nodeT l bits ns x = otherF (nodeT l bits ns (ka ns x)) := by
  rw [T_eq l bits hf hx]; unfold nodeF; unfold kd at k; rw [if_neg (by omega), if_neg (by omega), if_neg (by omega), if_neg (by omega), if_neg (by omega), if_pos k]; rfl
theorem T_star {x : Int} (hf : FineN ns) (hx : isIn ns x) (k : kd ns x = 7) : nodeT l bits ns x = anyTo (nodeT l bits ns (ka ns x)) (l.length + 1) (l.length + 1) := by
  rw [T_eq l bits hf hx]; unfold nodeF; unfold kd at k; rw [if_neg (by omega), if_neg (by omega), if_neg (by omega), if_neg (by omega), if_neg (by omega), if_neg (by omega), if_pos k]; rfl
theorem T_look {x : Int} (hf : FineN ns) (hx : isIn ns x) (k : kd ns x = 8) : nodeT l bits ns x = bitF bits (ka ns x).toNat (ndAt ns x.toNat).neg := by
  rw [T_eq l bits hf hx]; unfold nodeF; unfold kd at k; rw [if_neg (by omega), if_neg (by omega), if_neg (by omega), if_neg (by omega), if_neg (by omega), if_neg (by omega), if_neg (by omega), if_pos k]; rfl
/-- A node matches nothing backwards. -/
theorem slimT (hf : FineN ns) : ∀ (n : Nat) (x : Int), x.toNat ≤ n → isIn ns x → ∀ i j, nodeT l bits ns x i j = true → i ≤ j
  | n, x, hn, hx, i, j, h => by
    have hx' := hx
    unfold isIn at hx'
    have two : kd ns x = 3 ∨ kd ns x = 4 ∨ kd ns x = 5 → n ≠ 0 := fun k => by
      obtain ⟨⟨a0, a1⟩, _⟩ := in_two hf hx k
      unfold isIn at a0
      omega
    rcases kind_in hf hx with k | k | k | k | k | k | k | k | k
    · rw [T_no hf hx k] at h; cases h
    · rw [T_em hf hx k] at h; have := (eqF_iff _ _).1 h; omega
    · rw [T_bytes hf hx k] at h
      unfold byteF at h
      rw [Bool.and_eq_true, decide_eq_true_eq] at h
      omega
    · rw [T_cat hf hx k] at h
      obtain ⟨q, q0, q1, q2, _⟩ := (then_iff _ _ _ _ _).1 h
      omega
    · rw [T_or hf hx k] at h
      obtain ⟨⟨a0, a1⟩, b0, b1⟩ := in_two hf hx (by omega)
      have h0 := a0
      have h1 := b0
      unfold isIn at h0 h1
      cases n with
      | zero => exact absurd rfl (two (by omega))
      | succ n =>
        rw [Bool.or_eq_true] at h
        rcases h with h | h
        · exact slimT hf n _ (by omega) a0 i j h
        · exact slimT hf n _ (by omega) b0 i j h
    · rw [T_and hf hx k] at h
      obtain ⟨⟨a0, a1⟩, b0, b1⟩ := in_two hf hx (by omega)
      have h0 := a0
      unfold isIn at h0
      cases n with
      | zero => exact absurd rfl (two (by omega))
      | succ n =>
        rw [Bool.and_eq_true] at h
        exact slimT hf n _ (by omega) a0 i j h.1
    · rw [T_not hf hx k] at h
      unfold otherF at h
      rw [Bool.and_eq_true, decide_eq_true_eq] at h
      exact h.1
    · rw [T_star hf hx k] at h
      exact any_le _ h
    · rw [T_look hf hx k] at h
      unfold bitF at h
      rw [Bool.and_eq_true, decide_eq_true_eq] at h
      omega
theorem or_table (hf : FineN ns) : ∀ (n : Nat) (x : Int), x.toNat ≤ n → isIn ns x → ∀ i j, nodeT l bits ns x i j = (mem ns 4 x).any (fun y => nodeT l bits ns y i j)
  | n, x, hn, hx, i, j => by
    by_cases e : kd ns x = 4
    · obtain ⟨⟨a0, a1⟩, b0, b1⟩ := in_two hf hx (by omega)
      have h0 := a0
      have h1 := b0
      have h2 := hx
      unfold isIn at h0 h1 h2
      cases n with
      | zero => omega
      | succ n =>
        rw [mem_node hf (Or.inl rfl) hx e, List.any_append, ← or_table hf n _ (by omega) a0, ← or_table hf n _ (by omega) b0, T_or hf hx e]
    · rw [mem_leaf e, List.any_cons, List.any_nil, Bool.or_false]
theorem and_table (hf : FineN ns) : ∀ (n : Nat) (x : Int), x.toNat ≤ n → isIn ns x → ∀ i j, nodeT l bits ns x i j = (mem ns 5 x).all (fun y => nodeT l bits ns y i j)
  | n, x, hn, hx, i, j => by
    by_cases e : kd ns x = 5
    · obtain ⟨⟨a0, a1⟩, b0, b1⟩ := in_two hf hx (by omega)
      have h0 := a0
      have h1 := b0
      have h2 := hx
      unfold isIn at h0 h1 h2
      cases n with
      | zero => omega
      | succ n =>
        rw [mem_node hf (Or.inr rfl) hx e, List.all_append, ← and_table hf n _ (by omega) a0, ← and_table hf n _ (by omega) b0, T_and hf hx e]
    · rw [mem_leaf e, List.all_cons, List.all_nil, Bool.and_true]
theorem T_al (hf : FineN ns) {x : Int} (hx : isIn ns x) (h : isAl ns x = true) (i j : Nat) : nodeT l bits ns x i j = decide (i ≤ j) := by
  unfold isAl at h
  rw [Bool.and_eq_true, decide_eq_true_eq, decide_eq_true_eq] at h
  rw [T_not hf hx h.1, T_no hf (in_one hf hx (Or.inl h.1)).1 h.2]
  unfold otherF noF
  rw [Bool.not_false, Bool.and_true]
end
/- By what a node is seen as. -/
section
variable {l bits}
variable (hc : Canon ns) (hl : ∀ b ∈ l, b < 256)
include hc hl
end
/- A Cat. -/
section
variable {l bits}
end
end

/- What comes later turns no node. -/
theorem nodesF_up (l bits : List Nat) (ns more : List Nd) : ∀ j, j ≤ ns.length → nodesF l bits (ns ++ more) j = nodesF l bits ns j
  | 0, _ => rfl
  | j + 1, h => by
    show nodesF l bits (ns ++ more) j ++ [nodeF l bits (nodesF l bits (ns ++ more) j) (ndAt (ns ++ more) j)] = nodesF l bits ns j ++ [nodeF l bits (nodesF l bits ns j) (ndAt ns j)]
    have e : ndAt (ns ++ more) j = ndAt ns j := by unfold ndAt; rw [List.getElem?_append_left (by omega)]
    rw [nodesF_up l bits ns more j (by omega), e]
theorem nodeT_up (l bits : List Nat) {ns : List Nd} (more : List Nd) {x : Int} (hx : isIn ns x) : nodeT l bits (ns ++ more) x = nodeT l bits ns x := by
  unfold isIn at hx
  rw [← fAt_prefix l bits (ns ++ more) x ns.length hx.1 hx.2 (by rw [List.length_append]; omega), nodesF_up l bits ns more ns.length (Nat.le_refl _)]
  rfl

end Go.Proofs.YthifbaacmohmnaaGreat

/- Formulas as data and as memory; bolterref09.has, Holds. -/
namespace Go.Proofs.YthifbaacmohmnaaGreat
open Go.RowKit
set_option linter.unusedVariables false
set_option linter.unusedSimpArgs false

/-- What an int can hold. -/
def IsI (x : Int) : Prop := -9223372036854775808 ≤ x ∧ x ≤ 9223372036854775807
abbrev Fm := List (List Int)
def inAt (l : List Int) (j : Nat) : Int := (l[j]?).getD 0
def paAt (f : Fm) (j : Nat) : List Int := (f[j]?).getD []
theorem inAt_lt {l : List Int} {j : Nat} (h : j < l.length) : inAt l j = l[j] := by unfold inAt; rw [List.getElem?_eq_getElem h]; rfl
theorem paAt_lt {f : Fm} {j : Nat} (h : j < f.length) : paAt f j = f[j] := by unfold paAt; rw [List.getElem?_eq_getElem h]; rfl
/-- Numbers in a row. -/
def IntsAt (w : World) (v : Value) (l : List Int) : Prop :=
  ∃ A c, v = .slice A l.length c ∧ l.length ≤ c ∧ c ≤ 9223372036854775807 ∧ (∀ x ∈ l, IsI x) ∧ (0 < l.length → ∃ b off, A = some ⟨b, off, none⟩ ∧ b < w.heap.size ∧ ∀ j, j < l.length → w.cell? ⟨b, off + j, none⟩ = some (.int .i64 (inAt l j)))
/-- Parts in a row. -/
def FmAt (w : World) (v : Value) (f : Fm) : Prop :=
  ∃ A c, v = .slice A f.length c ∧ f.length ≤ c ∧ c ≤ 9223372036854775807 ∧ (0 < f.length → ∃ b off, A = some ⟨b, off, none⟩ ∧ b < w.heap.size ∧ ∀ j, j < f.length → ∃ u, w.cell? ⟨b, off + j, none⟩ = some u ∧ IntsAt w u (paAt f j))
section
variable {w w' : World} {v : Value} {l : List Int} {f : Fm}
theorem IntsAt.next (h : IntsAt w v l) (hb : Below w.heap.size w w') : IntsAt w' v l := by
  obtain ⟨A, c, h1, h2, h3, h4, h5⟩ := h
  refine ⟨A, c, h1, h2, h3, h4, fun h0 => ?_⟩
  obtain ⟨b, off, e, hlt, hr⟩ := h5 h0
  exact ⟨b, off, e, Nat.lt_of_lt_of_le hlt hb.size, fun j hj => ((bcell hb).1 b _ hlt).trans (hr j hj)⟩
theorem FmAt.next (h : FmAt w v f) (hb : Below w.heap.size w w') : FmAt w' v f := by
  obtain ⟨A, c, h1, h2, h3, h5⟩ := h
  refine ⟨A, c, h1, h2, h3, fun h0 => ?_⟩
  obtain ⟨b, off, e, hlt, hr⟩ := h5 h0
  refine ⟨b, off, e, Nat.lt_of_lt_of_le hlt hb.size, fun j hj => ?_⟩
  obtain ⟨u, hu, hi⟩ := hr j hj
  exact ⟨u, ((bcell hb).1 b _ hlt).trans hu, hi.next hb⟩
theorem IntsAt.drewN (h : IntsAt w v l) (q : Nat) : IntsAt (w.drewN q) v l := h
theorem FmAt.drewN (h : FmAt w v f) (q : Nat) : FmAt (w.drewN q) v f := h
/-- What is read at a place. -/
theorem IntsAt.at {A : Option Addr} {n c : Nat} (h : IntsAt w (.slice A n c) l) (j : Nat) (hj : j < l.length) : ∃ b off, A = some ⟨b, off, none⟩ ∧ b < w.heap.size ∧ w.cell? ⟨b, off + j, none⟩ = some (.int .i64 (inAt l j)) := by
  obtain ⟨A', c', h1, _, _, _, h5⟩ := h
  injection h1 with e1 _ _
  subst e1
  obtain ⟨b, off, e, hlt, hr⟩ := h5 (by omega)
  exact ⟨b, off, e, hlt, hr j hj⟩
theorem FmAt.at {A : Option Addr} {n c : Nat} (h : FmAt w (.slice A n c) f) (j : Nat) (hj : j < f.length) : ∃ b off A2 c2, A = some ⟨b, off, none⟩ ∧ b < w.heap.size ∧ w.cell? ⟨b, off + j, none⟩ = some (.slice A2 (paAt f j).length c2) ∧ IntsAt w (.slice A2 (paAt f j).length c2) (paAt f j) := by
  obtain ⟨A', c', h1, _, _, h5⟩ := h
  injection h1 with e1 _ _
  subst e1
  obtain ⟨b, off, e, hlt, hr⟩ := h5 (by omega)
  obtain ⟨u, hu, hi⟩ := hr j hj
  obtain ⟨A2, c2, rfl, r⟩ := id hi
  exact ⟨b, off, A2, c2, e, hlt, hu, hi⟩
theorem IntsAt.len {A : Option Addr} {n c : Nat} (h : IntsAt w (.slice A n c) l) : n = l.length := by obtain ⟨A', c', h1, _⟩ := h; injection h1
theorem FmAt.len {A : Option Addr} {n c : Nat} (h : FmAt w (.slice A n c) f) : n = f.length := by obtain ⟨A', c', h1, _⟩ := h; injection h1
theorem IntsAt.max {A : Option Addr} {n c : Nat} (h : IntsAt w (.slice A n c) l) : l.length ≤ 9223372036854775807 := by obtain ⟨A', c', h1, h2, h3, _⟩ := h; omega
theorem FmAt.max {A : Option Addr} {n c : Nat} (h : FmAt w (.slice A n c) f) : f.length ≤ 9223372036854775807 := by obtain ⟨A', c', h1, h2, h3, _⟩ := h; omega
end
theorem below_dn {B : Nat} {w w' : World} (h : Below B w w') (q : Nat) : Below B w (w'.drewN q) := ⟨h.os, h.tape, h.output, h.size, h.block⟩
def hasS (l : List Int) (n : Int) : Bool := l.any (fun x => x == n)
def partS (p on : List Int) : Bool := p.all (fun n => hasS on n)
def holdsS (f : Fm) (on : List Int) : Bool := f.any (fun p => partS p on)
theorem fm_any_take {α : Type} (l : List α) (g : α → Bool) (i : Nat) (h : i < l.length) : (l.take (i + 1)).any g = ((l.take i).any g || g l[i]) := by
  rw [List.take_add_one, List.getElem?_eq_getElem h]; simp only [Option.toList, List.any_append, List.any_cons, List.any_nil, Bool.or_false]
theorem any_at {α : Type} {l : List α} {g : α → Bool} {i : Nat} (h : i < l.length) (hg : g l[i] = true) : l.any g = true := List.any_eq_true.2 ⟨_, List.getElem_mem h, hg⟩

end Go.Proofs.YthifbaacmohmnaaGreat

/- bolterref09.less, Same. -/
namespace Go.Proofs.YthifbaacmohmnaaGreat
open Go.RowKit
set_option linter.unusedVariables false
set_option linter.unusedSimpArgs false

def lexS : List Int → List Int → Bool
  | x :: a, y :: b => if x = y then lexS a b else decide (x < y)
  | _, _ => false
def lessS (a b : List Int) : Bool := if a.length = b.length then lexS a b else decide (a.length < b.length)
theorem drop_at (l : List Int) (i : Nat) (h : i < l.length) : l.drop i = inAt l i :: l.drop (i + 1) := by rw [inAt_lt h]; exact List.drop_eq_getElem_cons h
theorem take_step {α : Type} (l : List α) (i : Nat) (h : i < l.length) : l.take (i + 1) = l.take i ++ [l[i]] := by
  rw [List.take_add_one, List.getElem?_eq_getElem h]; rfl
end Go.Proofs.YthifbaacmohmnaaGreat
