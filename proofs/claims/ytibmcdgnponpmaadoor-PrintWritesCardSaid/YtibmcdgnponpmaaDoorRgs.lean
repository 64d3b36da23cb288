/- Ranges of numbers that make up a list. No program is named here. -/
import Derived.Test.YtibmcdgnponpmaaDoorMa
import Derived.Test.YtibmcdgnponpmaaDoorOwn
namespace Go.Proofs.YtibmcdgnponpmaaDoor
open Go.RowKit

/-- The numbers of a range. -/
def rg (p : Nat × Nat) : List Nat := List.range' p.1 (p.2 + 1 - p.1)
structure Rg (R : List (Nat × Nat)) (l : List Nat) : Prop where
  out : R.flatMap rg = l
  ok : ∀ p ∈ R, p.1 ≤ p.2 ∧ p.2 < 256
  gap : ∀ (i : Nat) (a b : Nat × Nat), R[i]? = some a → R[i + 1]? = some b → a.2 + 1 < b.1
theorem Rg.nil : Rg [] [] := ⟨rfl, (fun _ h => by cases h), (fun _ _ _ h => by simp at h)⟩
theorem mem_rg (p : Nat × Nat) (h : p.1 ≤ p.2) : p.2 ∈ rg p := by
  unfold rg
  rw [List.mem_range'_1]
  omega
theorem Rg.last_mem {D : List (Nat × Nat)} {p : Nat × Nat} {l : List Nat} (h : Rg (D ++ [p]) l) : p.2 ∈ l := by
  rw [← h.out]
  simp
  exact .inr (mem_rg p (h.ok p (by simp)).1)
theorem Rg.wider {D : List (Nat × Nat)} {a e b : Nat} {l : List Nat} (h : Rg (D ++ [(a, e)]) l) (he : e + 1 = b) (hb : b < 256) : Rg (D ++ [(a, b)]) (l ++ [b]) := by
  have hae := (h.ok (a, e) (by simp)).1
  simp at hae
  refine ⟨?_, ?_, ?_⟩
  · rw [← h.out]
    simp only [List.flatMap_append, List.flatMap_cons, List.flatMap_nil, List.append_nil, List.append_assoc]
    congr 1
    unfold rg
    show List.range' a (b + 1 - a) = List.range' a (e + 1 - a) ++ [b]
    rw [show b + 1 - a = (e + 1 - a) + 1 from by omega, List.range'_1_concat]
    congr 2
    omega
  · intro p hp
    simp at hp
    rcases hp with hp | rfl
    · exact h.ok p (by simp [hp])
    · simp; omega
  · intro i x y hx hy
    by_cases hi : i + 1 < D.length
    · refine h.gap i x y ?_ ?_
      · rw [List.getElem?_append_left (by omega)] at hx ⊢; exact hx
      · rw [List.getElem?_append_left hi] at hy ⊢; exact hy
    · have hl : i + 1 = D.length := by
        have := (List.getElem?_eq_some_iff.1 hy).1
        simp at this
        omega
      rw [List.getElem?_append_right (by omega), show i + 1 - D.length = 0 from by omega] at hy
      simp at hy
      subst hy
      have := h.gap i x (a, e) (by rw [List.getElem?_append_left (by omega)] at hx ⊢; exact hx) (by rw [List.getElem?_append_right (by omega), show i + 1 - D.length = 0 from by omega]; rfl)
      exact this
theorem Rg.push {R : List (Nat × Nat)} {b : Nat} {l : List Nat} (h : Rg R l) (hg : ∀ D p, R = D ++ [p] → p.2 + 1 < b) (hb : b < 256) : Rg (R ++ [(b, b)]) (l ++ [b]) := by
  refine ⟨?_, ?_, ?_⟩
  · rw [← h.out, List.flatMap_append]
    congr 1
    simp [rg]
  · intro p hp
    simp at hp
    rcases hp with hp | rfl
    · exact h.ok p hp
    · simp; omega
  · intro i x y hx hy
    by_cases hi : i + 1 < R.length
    · refine h.gap i x y ?_ ?_
      · rw [List.getElem?_append_left (by omega)] at hx; exact hx
      · rw [List.getElem?_append_left hi] at hy; exact hy
    · have hl : i + 1 = R.length := by
        have := (List.getElem?_eq_some_iff.1 hy).1
        simp at this
        omega
      rw [List.getElem?_append_right (by omega), show i + 1 - R.length = 0 from by omega] at hy
      simp at hy
      subst hy
      rw [List.getElem?_append_left (by omega)] at hx
      refine hg (R.take i) x ?_
      have h2 : R.take (i + 1) = R.take i ++ [x] := by rw [List.take_add_one, hx]; rfl
      rw [List.take_of_length_le (by omega)] at h2
      exact h2
/-- Where the numbers of range i begin in the list. -/
def stAt (R : List (Nat × Nat)) (i : Nat) : Nat := ((R.take i).flatMap rg).length
theorem stAt_zero (R : List (Nat × Nat)) : stAt R 0 = 0 := by simp [stAt]
theorem stAt_all (R : List (Nat × Nat)) (l : List Nat) (h : Rg R l) : stAt R R.length = l.length := by unfold stAt; rw [List.take_length, h.out]
theorem stAt_succ (R : List (Nat × Nat)) (i : Nat) (p : Nat × Nat) (h : R[i]? = some p) : stAt R (i + 1) = stAt R i + (p.2 + 1 - p.1) := by
  unfold stAt
  rw [List.take_add_one, h, List.flatMap_append, List.length_append]
  simp [rg]
theorem Rg.at {R : List (Nat × Nat)} {l : List Nat} (h : Rg R l) (i : Nat) (p : Nat × Nat) (hp : R[i]? = some p) (t : Nat) (ht : p.1 + t ≤ p.2) : l[stAt R i + t]? = some (p.1 + t) := by
  have hi := (List.getElem?_eq_some_iff.1 hp).1
  have e : R = R.take i ++ p :: R.drop (i + 1) := by
    have h1 := (List.take_append_drop i R).symm
    rw [List.drop_eq_getElem_cons hi] at h1
    rw [(List.getElem?_eq_some_iff.1 hp).2] at h1
    exact h1
  rw [← h.out]
  have e2 : R.flatMap rg = (R.take i).flatMap rg ++ (rg p ++ (R.drop (i + 1)).flatMap rg) := by
    conv => lhs; rw [e]
    simp
  rw [e2, List.getElem?_append_right (by unfold stAt; omega)]
  rw [show stAt R i + t - ((R.take i).flatMap rg).length = t from by unfold stAt; omega]
  have hl : t < (rg p).length := by unfold rg; simp; omega
  rw [List.getElem?_append_left hl]
  unfold rg at hl ⊢
  rw [List.getElem?_range' (by simpa using hl)]
  simp

/- Pairs of bytes in memory. -/
def flat (R : List (Nat × Nat)) : List Value := R.flatMap (fun p => [Value.int .u8 (p.1 : Nat), Value.int .u8 (p.2 : Nat)])
theorem rflat_length (R : List (Nat × Nat)) : (flat R).length = R.length * 2 := by
  unfold flat
  induction R with
  | nil => rfl
  | cons p r ih => simp [ih]; omega
theorem rflat_append (R S : List (Nat × Nat)) : flat (R ++ S) = flat R ++ flat S := by simp [flat]
theorem rflat_at (R : List (Nat × Nat)) (i : Nat) (p : Nat × Nat) (h : R[i]? = some p) : (flat R)[i * 2]? = some (.int .u8 (p.1 : Nat)) ∧ (flat R)[i * 2 + 1]? = some (.int .u8 (p.2 : Nat)) := by
  have hi := (List.getElem?_eq_some_iff.1 h).1
  have h1 := (List.take_append_drop i R).symm
  rw [List.drop_eq_getElem_cons hi, (List.getElem?_eq_some_iff.1 h).2] at h1
  rw [h1, rflat_append]
  have hl : (flat (R.take i)).length = i * 2 := by rw [rflat_length, List.length_take, Nat.min_eq_left (by omega)]
  constructor
  · rw [List.getElem?_append_right (by omega), hl, Nat.sub_self]; rfl
  · rw [List.getElem?_append_right (by omega), hl, show i * 2 + 1 - i * 2 = 1 from by omega]; rfl
def PairRow (w : World) (base : Nat) (e : TypeId) (v : Value) (R : List (Nat × Nat)) : Prop := w.ownsRow base e 2 v R.length (flat R)
section
variable {w w' w0 : World} {base : Nat} {e : TypeId} {v : Value} {R : List (Nat × Nat)}
theorem PairRow.nil (w : World) (base : Nat) (e : TypeId) : PairRow w base e (.slice none 0 0) [] := World.ownsRow_nil w base e 2
theorem PairRow.heap (h : PairRow w base e v R) (hh : w0.heap = w.heap) : PairRow w0 base e v R := by
  unfold PairRow World.ownsRow at h ⊢
  rw [hh]
  exact h
theorem PairRow.next (h : PairRow w base e v R) (hb : Below w.heap.size w w') : PairRow w' base e v R :=
  World.ownsRow.kept (row := none) h (below_grown hb none) (by cases hv : v.ownBlock <;> simp)
theorem PairRow.step (h : PairRow w base e v R) (hb : Below w0.heap.size w0 w') (hh : w0.heap = w.heap) : PairRow w' base e v R := (h.heap hh).next hb
theorem PairRow.alloc (h : PairRow w base e v R) (o : Obj) : PairRow (w.alloc o) base e v R := World.ownsRow.alloc h o
theorem PairRow.mono {base' : Nat} (h : PairRow w base e v R) (hb : base' ≤ base) : PairRow w base' e v R := by
  refine ⟨h.1, ?_⟩
  rcases h.2 with hn | ⟨g, cap, cur, hv, hbg, rest⟩
  · exact .inl hn
  · exact .inr ⟨g, cap, cur, hv, by omega, rest⟩
theorem PairRow.low (h : PairRow w base e v R) : ∀ g, v.ownBlock = some g → base ≤ g := fun g hg => (World.ownsRow.lt h g hg).1
theorem PairRow.len (h : PairRow w base e v R) : ∃ A cap, v = .slice A R.length cap := by
  rcases h.2 with ⟨rfl, hn⟩ | ⟨g, cap, cur, rfl, _⟩
  · exact ⟨none, 0, by rw [hn]⟩
  · exact ⟨_, _, rfl⟩
theorem PairRow.form (h : PairRow w base e v R) (hn : 0 < R.length) : ∃ g cap, v = .slice (some ⟨g, 0, none⟩) R.length cap ∧ base ≤ g ∧ g < w.heap.size ∧ R.length ≤ cap ∧ cap ≤ maxLen := by
  rcases h.2 with ⟨rfl, h0⟩ | ⟨g, cap, cur, rfl, hb, hg, hc, hm, _⟩
  · omega
  · exact ⟨g, cap, rfl, hb, (Array.getElem?_eq_some_iff.1 hg).1, hc, hm⟩
theorem PairRow.at {g cap n : Nat} (h : PairRow w base e (.slice (some ⟨g, 0, none⟩) n cap) R) (i : Nat) (p : Nat × Nat) (hp : R[i]? = some p) :
    w.cell? ⟨g, i * 2, none⟩ = some (.int .u8 (p.1 : Nat)) ∧ w.cell? ⟨g, i * 2 + 1, none⟩ = some (.int .u8 (p.2 : Nat)) := by
  have hi := (List.getElem?_eq_some_iff.1 hp).1
  have hl : n = R.length := by
    rcases h.2 with ⟨hv, _⟩ | ⟨g', cap', cur, hv, _⟩
    · cases hv
    · injection hv
  subst hl
  obtain ⟨f1, f2⟩ := rflat_at R i p hp
  rw [World.ownsRow.cellAt h (i * 2) (by omega), World.ownsRow.cellAt h (i * 2 + 1) (by omega), f1, f2]
  exact ⟨rfl, rfl⟩
theorem PairRow.free {g cap n : Nat} (h : PairRow w base e (.slice (some ⟨g, 0, none⟩) n cap) R) (j : Nat) : w.frozen? ⟨g, j, none⟩ = false := by
  have hl : n = R.length := by
    rcases h.2 with ⟨hv, _⟩ | ⟨g', cap', cur, hv, _⟩
    · cases hv
    · injection hv
  subst hl
  exact World.ownsRow.frozenAt h j
theorem PairRow.bare {A : Option Addr} {c : Nat} (h : PairRow w base e (.slice A 0 c) []) : w.ownsRow base e 2 (.slice A 0 c) 0 [] := h
theorem PairRow.row {D : List (Nat × Nat)} {a x d : Nat} (h : PairRow w base e v (D ++ [(a, x)])) (hd : d = D.length) : w.ownsRow base e 2 v (d + 1) (flat (D ++ [(a, x)])) := by
  subst hd
  unfold PairRow at h
  simpa using h
theorem set_append_last (xs : List Value) (a b c : Value) : (xs ++ [a, b]).set (xs.length + 1) c = xs ++ [a, c] := by
  rw [List.set_append_right _ _ (by omega), show xs.length + 1 - xs.length = 1 from by omega]
  rfl
theorem PairRow.widen {g cap n : Nat} {D : List (Nat × Nat)} {a b : Nat} {x : Nat} (h : PairRow w base e (.slice (some ⟨g, 0, none⟩) n cap) (D ++ [(a, x)])) :
    PairRow (w.setCell ⟨g, D.length * 2 + 1, none⟩ (.int .u8 (b : Nat))) base e (.slice (some ⟨g, 0, none⟩) n cap) (D ++ [(a, b)]) ∧ w.grownBy (w.setCell ⟨g, D.length * 2 + 1, none⟩ (.int .u8 (b : Nat))) (some g) := by
  have hl : n = (D ++ [(a, x)]).length := by
    rcases h.2 with ⟨hv, _⟩ | ⟨g', cap', cur, hv, _⟩
    · cases hv
    · injection hv
  subst hl
  obtain ⟨h1, h2⟩ := World.ownsRow.stored h (D.length * 2 + 1) (.int .u8 (b : Nat))
  refine ⟨?_, h2⟩
  unfold PairRow
  rw [rflat_append] at h1 ⊢
  have e1 : flat [(a, x)] = [Value.int .u8 (a : Nat), Value.int .u8 (x : Nat)] := rfl
  have e2 : flat [(a, b)] = [Value.int .u8 (a : Nat), Value.int .u8 (b : Nat)] := rfl
  rw [e1, ← rflat_length D, set_append_last] at h1
  rw [e2]
  simpa [rflat_length] using h1
theorem PairRow.push {b c : Nat} (h : w.ownsRow base e 2 v (R.length + 1) (flat R ++ [Value.int .u8 (b : Nat), Value.int .u8 (c : Nat)])) : PairRow w base e v (R ++ [(b, c)]) := by
  unfold PairRow
  have e1 : flat [(b, c)] = [Value.int .u8 (b : Nat), Value.int .u8 (c : Nat)] := rfl
  rw [rflat_append, e1]
  simpa using h
end

end Go.Proofs.YtibmcdgnponpmaaDoor
