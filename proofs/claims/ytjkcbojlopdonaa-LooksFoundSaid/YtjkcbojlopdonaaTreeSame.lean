/- tree.Same, where the first pattern's lists lie in blocks of their own. -/
import Derived.Test.YtjkcbojlopdonaaPairsBelow
import Derived.Test.YtjkcbojlopdonaaSbp
namespace Go.Proofs.Ytjkcbojlopdonaa
open Go.RowKit
set_option linter.unusedSimpArgs false
set_option linter.unusedVariables false

/- Level by level, what Same answers. -/
def bfs : Nat → List Pr → Bool
  | 0, P => P.isEmpty
  | n + 1, P => P.isEmpty || (P.all (fun p => okL p.ms p.ns) && bfs n (nextP P))
theorem bfs_nil (n : Nat) : bfs n [] = true := by cases n <;> rfl
theorem mem_nextP {P : List Pr} {q : Pr} : q ∈ nextP P ↔ ∃ p ∈ P, ∃ x ∈ p.ms.zip p.ns, x.1.parts.length ≠ 0 ∧ q = ⟨.slice x.1.addr x.1.parts.length x.1.cap, x.1.parts, .slice x.2.addr x.2.parts.length x.2.cap, x.2.parts⟩ := by
  unfold nextP nextL
  rw [List.mem_flatMap]
  constructor
  · rintro ⟨p, hp, h⟩
    rw [List.mem_flatMap] at h
    obtain ⟨x, hx, h⟩ := h
    unfold nextE at h
    split at h
    · cases h
    · exact ⟨p, hp, x, hx, by assumption, List.mem_singleton.1 h⟩
  · rintro ⟨p, hp, x, hx, h0, rfl⟩
    refine ⟨p, hp, List.mem_flatMap.2 ⟨x, hx, ?_⟩⟩
    unfold nextE
    rw [if_neg h0]
    exact List.mem_singleton.2 rfl
theorem own_parts {a b : Tr} (h : ownSame a b = true) : a.parts.length = b.parts.length := by
  unfold ownSame at h
  simp only [Bool.and_eq_true, beq_iff_eq] at h
  exact h.2.2.2.2.2
theorem sameS_iff {k : Nat} {m : Int} {a b : Tr} (hm : 1 ≤ m) : sameS (k + 1) m a b = true ↔ ownSame a b = true ∧ ∀ x ∈ a.parts.zip b.parts, sameS k (m - 1) x.1 x.2 = true := by
  show (decide (1 ≤ m) && (ownSame a b && (a.parts.zip b.parts).all (fun p => sameS k (m - 1) p.1 p.2))) = true ↔ _
  rw [decide_eq_true hm, Bool.true_and, Bool.and_eq_true, List.all_eq_true]
theorem bfs_same : ∀ (k : Nat) (P : List Pr), (∀ p ∈ P, 0 < p.ms.length) → (bfs k P = true ↔ ∀ p ∈ P, p.ms.length = p.ns.length ∧ ∀ x ∈ p.ms.zip p.ns, sameS k k x.1 x.2 = true)
  | 0, P, h => by
    cases P with
    | nil => simp [bfs]
    | cons p P =>
      refine ⟨fun q => by simp [bfs] at q, fun q => ?_⟩
      obtain ⟨e, q⟩ := q p (by simp)
      have h0 := h p (by simp)
      have := q (p.ms[0], p.ns[0]'(by omega)) (by
        rw [List.mem_iff_getElem]
        exact ⟨0, by rw [List.length_zip]; omega, by simp⟩)
      cases this
  | k + 1, P, h => by
    have hn : ∀ q ∈ nextP P, 0 < q.ms.length := fun q hq => by
      obtain ⟨p, _, x, _, h0, rfl⟩ := mem_nextP.1 hq
      exact Nat.pos_of_ne_zero h0
    have ih := bfs_same k (nextP P) hn
    have hk : ∀ a b : Tr, sameS (k + 1) ((k + 1 : Nat) : Int) a b = true ↔ ownSame a b = true ∧ ∀ x ∈ a.parts.zip b.parts, sameS k k x.1 x.2 = true := fun a b => by
      rw [sameS_iff (by omega), show ((k + 1 : Nat) : Int) - 1 = k by omega]
    constructor
    · intro q p hp
      have hne : P.isEmpty = false := by cases P with | nil => cases hp | cons _ _ => rfl
      unfold bfs at q
      rw [hne, Bool.false_or, Bool.and_eq_true, List.all_eq_true] at q
      have ho := q.1 p hp
      unfold okL at ho
      rw [Bool.and_eq_true, decide_eq_true_eq, List.all_eq_true] at ho
      refine ⟨ho.1, fun x hx => (hk _ _).2 ⟨ho.2 x hx, fun y hy => ?_⟩⟩
      have h0 : x.1.parts.length ≠ 0 := fun e => by
        rw [List.eq_nil_of_length_eq_zero e] at hy; cases hy
      exact ((ih.1 q.2) _ (mem_nextP.2 ⟨p, hp, x, hx, h0, rfl⟩)).2 y hy
    · intro q
      unfold bfs
      rw [Bool.or_eq_true]
      refine Or.inr ?_
      rw [Bool.and_eq_true, List.all_eq_true]
      refine ⟨fun p hp => ?_, ih.2 (fun r hr => ?_)⟩
      · unfold okL
        rw [Bool.and_eq_true, decide_eq_true_eq, List.all_eq_true]
        exact ⟨(q p hp).1, fun x hx => ((hk _ _).1 ((q p hp).2 x hx)).1⟩
      · obtain ⟨p, hp, x, hx, h0, rfl⟩ := mem_nextP.1 hr
        have hs := (hk _ _).1 ((q p hp).2 x hx)
        exact ⟨own_parts hs.1, fun y hy => hs.2 y hy⟩
/- What is known of the next level. -/
theorem own_next {w : World} {k hi : Nat} : ∀ {ms : List Tr} {lo : Nat}, (∀ t ∈ ms, t.n = t.parts.length) → ∀ {ns : List Tr}, ms.length = ns.length → ∀ {R : List Tr} {R' : List Tr}, (∀ c, OwnL (fun lo hi t => OwnW w (k + 1) lo hi t) hi c R → OwnL (fun lo hi t => OwnW w k lo hi t) hi c R') → OwnL (fun lo hi t => OwnW w (k + 1) lo hi t) hi lo (ms ++ R) → OwnL (fun lo hi t => OwnW w k lo hi t) hi lo ((nextL ms ns).flatMap (·.ms) ++ R')
  | [], lo, _, ns, hl, R, R', hR, h => by
    obtain rfl : ns = [] := List.eq_nil_of_length_eq_zero (by simpa using hl.symm)
    exact hR lo h
  | t :: ms, lo, hn, [], hl, _, _, _, _ => by cases hl
  | t :: ms, lo, hn, s :: ns, hl, R, R', hR, ⟨c, h1, h2⟩ => by
    have ih := own_next (fun t ht => hn t (List.mem_cons_of_mem _ ht)) (by simpa using hl) hR h2
    have e : nextL (t :: ms) (s :: ns) = nextE t s ++ nextL ms ns := rfl
    rw [e, List.flatMap_append, List.append_assoc]
    obtain ⟨m, a, b, d⟩ := h1
    have key : ∀ {qs : List Tr} {m lo : Nat} {T : List Tr}, lo ≤ m → OwnL (fun lo hi t => OwnW w k lo hi t) c m qs → OwnL (fun lo hi t => OwnW w k lo hi t) hi c T → OwnL (fun lo hi t => OwnW w k lo hi t) hi lo (qs ++ T) := by
      intro qs
      induction qs with
      | nil =>
        intro m lo T hlm hq hT
        have hle : lo ≤ c := Nat.le_trans hlm hq
        match T, hT with
        | [], hT => exact Nat.le_trans hle hT
        | q :: T, ⟨x, h1, h2⟩ => exact ⟨x, h1.lower hle, h2⟩
      | cons q qs ihq =>
        rintro m lo T hlm ⟨x, h1, h2⟩ hT
        exact ⟨x, h1.lower hlm, ihq (Nat.le_refl _) h2 hT⟩
    unfold nextE
    split
    · exact key (qs := []) a (OwnL.le (fun _ _ _ q => q.le) d) ih
    · rw [List.flatMap_cons, List.flatMap_nil, List.append_nil]
      exact key a d ih
theorem own_nextP {w : World} {k hi : Nat} : ∀ {P : List Pr} {lo : Nat}, (∀ p ∈ P, p.ms.length = p.ns.length ∧ ∀ t ∈ p.ms, t.n = t.parts.length) → OwnL (fun lo hi t => OwnW w (k + 1) lo hi t) hi lo (P.flatMap (·.ms)) → OwnL (fun lo hi t => OwnW w k lo hi t) hi lo ((nextP P).flatMap (·.ms))
  | [], _, _, h => h
  | p :: P, lo, hp, h => by
    have e : nextP (p :: P) = nextL p.ms p.ns ++ nextP P := rfl
    rw [e, List.flatMap_append]
    rw [List.flatMap_cons] at h
    exact own_next (hp p (by simp)).2 (hp p (by simp)).1 (fun c h => own_nextP (fun q hq => hp q (List.mem_cons_of_mem _ hq)) h) h
theorem mass_nextE (k : Nat) (a b : Tr) : ((nextE a b).map (fun p => lmS k p.ms)).sum ≤ massS (k + 1) a := by
  unfold nextE
  split
  · exact Nat.zero_le _
  · rw [List.map_singleton, List.sum_singleton, mass_parts]; exact Nat.le_add_left _ _
theorem mass_nextL (k : Nat) : ∀ (ms ns : List Tr), ((nextL ms ns).map (fun p => lmS k p.ms)).sum ≤ lmS (k + 1) ms
  | [], _ => by simp [nextL]
  | _ :: _, [] => by simp [nextL]
  | a :: ms, b :: ns => by
    have e : nextL (a :: ms) (b :: ns) = nextE a b ++ nextL ms ns := rfl
    have h1 := mass_nextE k a b
    have h2 := mass_nextL k ms ns
    rw [e, List.map_append, List.sum_append]
    unfold lmS at *
    rw [List.map_cons, List.sum_cons]
    omega
theorem mass_nextP (k : Nat) : ∀ P : List Pr, ((nextP P).map (fun p => lmS k p.ms)).sum ≤ (P.map (fun p => lmS (k + 1) p.ms)).sum
  | [] => by simp [nextP]
  | p :: P => by
    have e : nextP (p :: P) = nextL p.ms p.ns ++ nextP P := rfl
    have h1 := mass_nextL k p.ms p.ns
    have h2 := mass_nextP k P
    rw [e, List.map_append, List.sum_append, List.map_cons, List.sum_cons]
    omega
theorem len_mass (k : Nat) : ∀ P : List Pr, (P.map (fun p => p.ms.length)).sum ≤ (P.map (fun p => lmS k p.ms)).sum
  | [] => Nat.le_refl _
  | p :: P => by
    have h1 := lm_len k p.ms
    have h2 := len_mass k P
    rw [List.map_cons, List.sum_cons, List.map_cons, List.sum_cons]
    omega
theorem count_mass {w : World} {k : Nat} : ∀ {P : List Pr}, (∀ p ∈ P, 0 < p.ms.length) → P.length ≤ (P.map (fun p => p.ms.length)).sum
  | [], _ => Nat.le_refl _
  | p :: P, h => by
    have h1 := h p (by simp)
    have h2 := count_mass (w := w) (k := k) (P := P) (fun q hq => h q (List.mem_cons_of_mem _ hq))
    rw [List.length_cons, List.map_cons, List.sum_cons]
    omega
theorem PL.pos {w : World} {k : Nat} {u : Value} {ms : List Tr} (h : PL w k u ms) : 0 < ms.length := by obtain ⟨_, _, _, _, h, _⟩ := h; exact h
theorem PL.ins {w : World} {k : Nat} {u : Value} {ms : List Tr} (h : PL w k u ms) : ∀ t ∈ ms, Tr.Ins w k t := by obtain ⟨_, _, _, _, _, _, _, _, h⟩ := h; exact h
/-- What is known of all pairs of a level. -/
structure Lvl (w : World) (k lo hi : Nat) (v : Value) (P : List Pr) : Prop where
  arg : ArgP w v P
  a : ∀ p ∈ P, PL w k p.u p.ms
  b : ∀ p ∈ P, PL w k p.v p.ns
  own : OwnL (fun lo hi t => OwnW w k lo hi t) hi lo (P.flatMap (·.ms))
  mass : (P.map (fun p => lmS k p.ms)).sum ≤ 4000000
  massb : ∀ p ∈ P, p.ns.length ≤ 4000000
theorem Lvl.next {w w' : World} {k lo hi : Nat} {v : Value} {P : List Pr} (h : Lvl w k lo hi v P) (hb : Below w.heap.size w w') : Lvl w' k lo hi v P :=
  ⟨h.arg.next hb, fun p hp => (h.a p hp).next hb, fun p hp => (h.b p hp).next hb, OwnL.next hb h.own, h.mass, h.massb⟩
theorem Lvl.lens {w : World} {k lo hi : Nat} {v : Value} {P : List Pr} (h : Lvl w k lo hi v P) : P.length ≤ 4000000 := Nat.le_trans (count_mass (w := w) (k := k) (fun p hp => (h.a p hp).pos)) (Nat.le_trans (len_mass k P) h.mass)
theorem Lvl.len {w : World} {k lo hi : Nat} {v : Value} {P : List Pr} (h : Lvl w k lo hi v P) {p : Pr} (hp : p ∈ P) : p.ms.length ≤ 4000000 := by
  have h1 := Nat.le_trans (len_mass k P) h.mass
  have h2 : p.ms.length ≤ (P.map (fun p => p.ms.length)).sum := by
    clear h h1
    induction P with
    | nil => cases hp
    | cons q P ih =>
      rw [List.map_cons, List.sum_cons]
      rcases List.mem_cons.1 hp with rfl | hp
      · omega
      · have := ih hp; omega
  omega
theorem Lvl.zero {w : World} {lo hi : Nat} {v : Value} {P : List Pr} (h : Lvl w 0 lo hi v P) : P = [] := by
  cases P with
  | nil => rfl
  | cons p P => exact ((h.a p (by simp)).ins _ (List.getElem_mem (h.a p (by simp)).pos)).1.elim
theorem Lvl.ok {w : World} {k lo hi : Nat} {v : Value} {P : List Pr} (h : Lvl w k lo hi v P) (hall : P.all (fun p => okL p.ms p.ns) = true) : ∀ p ∈ P, PrOk w k p := fun p hp => by
  have ho := List.all_eq_true.1 hall p hp
  unfold okL at ho
  rw [Bool.and_eq_true, decide_eq_true_eq, List.all_eq_true] at ho
  exact ⟨h.a p hp, h.b p hp, ho.1, fun j h1 h2 => own_parts (ho.2 (p.ms[j], p.ns[j]) (by
    rw [List.mem_iff_getElem]
    exact ⟨j, by rw [List.length_zip]; omega, by simp⟩))⟩
theorem Lvl.step {w w' : World} {k lo hi : Nat} {v v' : Value} {P : List Pr} (h : Lvl w (k + 1) lo hi v P) (hall : P.all (fun p => okL p.ms p.ns) = true) (hb : Below w.heap.size w w') (ha : ArgP w' v' (nextP P)) : Lvl w' k lo hi v' (nextP P) := by
  have hok := h.ok hall
  have hz : ∀ {p : Pr}, p ∈ P → ∀ {x : Tr × Tr}, x ∈ p.ms.zip p.ns → x.1 ∈ p.ms ∧ x.2 ∈ p.ns ∧ x.1.parts.length = x.2.parts.length := fun {p} hp {x} hx => by
    obtain ⟨j, hj, rfl⟩ := List.getElem_of_mem hx
    rw [List.length_zip] at hj
    have e := (hok p hp).each j (by omega) (by omega)
    rw [List.getElem_zip]
    exact ⟨List.getElem_mem _, List.getElem_mem _, e⟩
  refine ⟨ha, fun q hq => ?_, fun q hq => ?_, OwnL.next hb (own_nextP (fun p hp => ⟨(hok p hp).len, fun t ht => ((h.a p hp).ins t ht).1.2.1.1⟩) h.own), Nat.le_trans (mass_nextP k P) h.mass, fun q hq => ?_⟩
  · obtain ⟨p, hp, x, hx, h0, rfl⟩ := mem_nextP.1 hq
    exact (part_pl ((h.a p hp).ins _ (hz hp hx).1) (by omega)).next hb
  · obtain ⟨p, hp, x, hx, h0, rfl⟩ := mem_nextP.1 hq
    have := (hz hp hx).2.2
    exact (part_pl ((h.b p hp).ins _ (hz hp hx).2.1) (by omega)).next hb
  · obtain ⟨p, hp, x, hx, h0, rfl⟩ := mem_nextP.1 hq
    have h1 := (hz hp hx).2.2
    have h2 := mass_nextP k P
    have h3 := Nat.le_trans (len_mass k (nextP P)) (Nat.le_trans h2 h.mass)
    have : x.1.parts.length ≤ ((nextP P).map (fun p => p.ms.length)).sum := by
      have : ∀ (Q : List Pr) (q : Pr), q ∈ Q → q.ms.length ≤ (Q.map (fun p => p.ms.length)).sum := fun Q q hq => by
        induction Q with
        | nil => cases hq
        | cons r Q ih =>
          rw [List.map_cons, List.sum_cons]
          rcases List.mem_cons.1 hq with rfl | hq
          · omega
          · have := ih hq; omega
      exact this _ _ hq
    show x.2.parts.length ≤ 4000000
    omega

end Go.Proofs.Ytjkcbojlopdonaa
