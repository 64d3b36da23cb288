/- Joined: LinMath, OffF, LinSpec, ArenaAwake, LawPuts9, Places, RefHas. -/
import Derived.Test.YthifbaacmohmnaaGreatMah
import Derived.Test.YthifbaacmohmnaaGreatMak
import Derived.Test.YthifbaacmohmnaaGreatMaf
import Derived.Test.YthifbaacmohmnaaGreatMae
import Derived.Deep.QuietTactic
import Derived.BigQuiet
import Derived.Test.YthifbaacmohmnaaGreatProg
import Derived.Test.YthifbaacmohmnaaGreatMaa
import Derived.Test.YthifbaacmohmnaaGreatMab
import Derived.Deep.OwnRows
import Derived.BigRegion
/- What is left of a node behind a byte: mathematics; no program is named. -/
namespace Go.Proofs.YthifbaacmohmnaaGreat
open Go.RowKit
set_option linter.unusedSimpArgs false
set_option linter.unusedVariables false
set_option linter.unusedSectionVars false

/-- Whether a formula holds with those numbers on. -/
def fP (P : Int → Bool) (f : Fm) : Bool := f.any (fun p => p.all P)
theorem all_agree {p : List Int} {P Q : Int → Bool} (h : ∀ n ∈ p, P n = Q n) : p.all P = p.all Q := by
  induction p with
  | nil => rfl
  | cons x p ih => rw [List.all_cons, List.all_cons, h x (by simp), ih (fun n hn => h n (by simp [hn]))]
theorem fP_agree {f : Fm} {P Q : Int → Bool} (h : ∀ p ∈ f, ∀ n ∈ p, P n = Q n) : fP P f = fP Q f := by
  unfold fP
  induction f with
  | nil => rfl
  | cons p f ih => rw [List.any_cons, List.any_cons, all_agree (h p (by simp)), ih (fun q hq => h q (by simp [hq]))]
theorem has_filter {P : Int → Bool} {L : List Int} {n : Int} (h : n ∈ L) : hasS (L.filter P) n = P n := by
  unfold hasS
  rw [Bool.eq_iff_iff, List.any_eq_true]
  constructor
  · rintro ⟨x, hx, e⟩
    rw [beq_iff_eq] at e
    subst e
    exact (List.mem_filter.1 hx).2
  · intro hp
    exact ⟨n, List.mem_filter.2 ⟨h, hp⟩, by simp⟩
theorem holds_fP {P : Int → Bool} {L : List Int} {f : Fm} (h : ∀ p ∈ f, ∀ n ∈ p, n ∈ L) : holdsS f (L.filter P) = fP P f := by
  show fP (hasS (L.filter P)) f = fP P f
  exact fP_agree (fun p hp n hn => has_filter (h p hp n hn))
/-- What holds of each choice of numbers that are on holds of each way to tell them. -/
theorem or_fP {f g h : Fm} (hh : ∀ on, holdsS h on = (holdsS f on || holdsS g on)) (P : Int → Bool) : fP P h = (fP P f || fP P g) := by
  have e := hh ((f ++ g ++ h).flatten.filter P)
  have m : ∀ k : Fm, (∀ p ∈ k, p ∈ f ++ g ++ h) → ∀ p ∈ k, ∀ n ∈ p, n ∈ (f ++ g ++ h).flatten := fun k hk p hp n hn => List.mem_flatten.2 ⟨p, hk p hp, hn⟩
  rw [holds_fP (m h (fun p hp => by simp [hp])), holds_fP (m f (fun p hp => by simp [hp])), holds_fP (m g (fun p hp => by simp [hp]))] at e
  exact e
theorem and_fP {f g h : Fm} (hh : ∀ on, holdsS h on = (holdsS f on && holdsS g on)) (P : Int → Bool) : fP P h = (fP P f && fP P g) := by
  have e := hh ((f ++ g ++ h).flatten.filter P)
  have m : ∀ k : Fm, (∀ p ∈ k, p ∈ f ++ g ++ h) → ∀ p ∈ k, ∀ n ∈ p, n ∈ (f ++ g ++ h).flatten := fun k hk p hp n hn => List.mem_flatten.2 ⟨p, hk p hp, hn⟩
  rw [holds_fP (m h (fun p hp => by simp [hp])), holds_fP (m f (fun p hp => by simp [hp])), holds_fP (m g (fun p hp => by simp [hp]))] at e
  exact e
theorem dual_fP {f h : Fm} (hh : ∀ on on', (∀ p ∈ f, ∀ x ∈ p, (x ∈ on' ↔ ¬ x ∈ on)) → holdsS h on = !holdsS f on') (P : Int → Bool) : fP P h = !fP (fun n => !P n) f := by
  have m : ∀ k : Fm, (∀ p ∈ k, p ∈ f ++ h) → ∀ p ∈ k, ∀ n ∈ p, n ∈ (f ++ h).flatten := fun k hk p hp n hn => List.mem_flatten.2 ⟨p, hk p hp, hn⟩
  have e := hh ((f ++ h).flatten.filter P) ((f ++ h).flatten.filter (fun n => !P n)) (fun p hp x hx => by
    have hm := m f (fun p hp => by simp [hp]) p hp x hx
    rw [List.mem_filter, List.mem_filter]
    constructor
    · rintro ⟨_, a⟩ ⟨_, b⟩
      rw [b] at a; cases a
    · intro a
      refine ⟨hm, ?_⟩
      cases e : P x
      · rfl
      · exact absurd ⟨hm, e⟩ a)
  rw [holds_fP (m h (fun p hp => by simp [hp])), holds_fP (m f (fun p hp => by simp [hp]))] at e
  exact e
theorem fP_atom (P : Int → Bool) (n : Int) : fP P [[n]] = P n := by simp [fP]
theorem fP_false (P : Int → Bool) : fP P [] = false := rfl
theorem fP_true (P : Int → Bool) : fP P [[]] = true := rfl
section
variable {l bits : List Nat} {ns : List Nd}
/-- At one place a node matches no bytes as it does in the empty input. -/
theorem null_at (hf : FineN ns) {bt : Nat} : ∀ (m : Nat) (x : Int), x.toNat ≤ m → isIn ns x → ∀ j, j ≤ l.length → (bits[j]?).getD 0 = bt → nodeT l bits ns x j j = nodeT [] [bt] ns x 0 0
  | m, x, hm, hx, j, hj, hb => by
    have hx' := hx
    unfold isIn at hx'
    rcases kind_in hf hx with k | k | k | k | k | k | k | k | k
    · rw [T_no hf hx k, T_no hf hx k]; rfl
    · rw [T_em hf hx k, T_em hf hx k]; simp [eqF]
    · rw [T_bytes hf hx k, T_bytes hf hx k]; simp [byteF]
    · obtain ⟨⟨a0, a1⟩, b0, b1⟩ := in_two hf hx (by omega)
      have h0 := a0
      have h1 := b0
      unfold isIn at h0 h1
      cases m with
      | zero => omega
      | succ m =>
        have ea := null_at hf m (ka ns x) (by omega) a0 j hj hb
        have eb := null_at hf m (kb ns x) (by omega) b0 j hj hb
        rw [T_cat hf hx k, T_cat hf hx k]
        rw [Bool.eq_iff_iff, then_iff, then_iff]
        constructor
        · rintro ⟨q, q0, q1, q2, q3, q4⟩
          obtain rfl : q = j := by omega
          exact ⟨0, by simp, Nat.le_refl _, Nat.le_refl _, by rw [← ea]; exact q3, by rw [← eb]; exact q4⟩
        · rintro ⟨q, q0, q1, q2, q3, q4⟩
          obtain rfl : q = 0 := by omega
          exact ⟨j, by omega, Nat.le_refl _, Nat.le_refl _, by rw [ea]; exact q3, by rw [eb]; exact q4⟩
    · obtain ⟨⟨a0, a1⟩, b0, b1⟩ := in_two hf hx (by omega)
      have h0 := a0
      have h1 := b0
      unfold isIn at h0 h1
      cases m with
      | zero => omega
      | succ m =>
        rw [T_or hf hx k, T_or hf hx k]
        show (_ || _) = (_ || _)
        rw [null_at hf m (ka ns x) (by omega) a0 j hj hb, null_at hf m (kb ns x) (by omega) b0 j hj hb]
    · obtain ⟨⟨a0, a1⟩, b0, b1⟩ := in_two hf hx (by omega)
      have h0 := a0
      have h1 := b0
      unfold isIn at h0 h1
      cases m with
      | zero => omega
      | succ m =>
        rw [T_and hf hx k, T_and hf hx k]
        show (_ && _) = (_ && _)
        rw [null_at hf m (ka ns x) (by omega) a0 j hj hb, null_at hf m (kb ns x) (by omega) b0 j hj hb]
    · obtain ⟨a0, a1⟩ := in_one hf hx (by omega)
      have h0 := a0
      unfold isIn at h0
      cases m with
      | zero => omega
      | succ m =>
        rw [T_not hf hx k, T_not hf hx k, otherF_at (Nat.le_refl _), otherF_at (Nat.le_refl _), null_at hf m (ka ns x) (by omega) a0 j hj hb]
    · rw [T_star hf hx k, T_star hf hx k, any_self, any_self]
    · rw [T_look hf hx k, T_look hf hx k]
      unfold bitF
      rw [hb]
      simp
theorem null_node (hf : FineN ns) {x : Int} (hx : isIn ns x) {bt j : Nat} (hj : j ≤ l.length) (hb : (bits[j]?).getD 0 = bt) : nodeT l bits ns x j j = nullS ns bt x := by
  unfold nullS
  unfold isIn at hx
  rw [null_at hf x.toNat x (Nat.le_refl _) hx j hj hb, decide_eq_true hx, Bool.true_and]
end
/- One behind the other, and any number of times, from the front. -/
theorem ways_front {f : Tbl} {n i j : Nat} (h : Ways f n i j) : i < j → j < n → ∃ k, i < k ∧ k ≤ j ∧ f i k = true ∧ Ways f n k j := by
  induction h with
  | here => intro h; omega
  | @step m j h1 h2 h3 h4 h5 ih =>
    intro hij hjn
    by_cases e : i = m
    · subst e
      exact ⟨j, hij, Nat.le_refl _, h5, .here⟩
    · obtain ⟨k, k1, k2, k3, k4⟩ := ih (by omega) h2
      exact ⟨k, k1, by omega, k3, .step k4 h2 k2 h4 h5⟩
theorem ways_back {f : Tbl} {n i k j : Nat} (hf : f i k = true) (hik : i ≤ k) (hi : i < n) (h : Ways f n k j) : Ways f n i j := by
  induction h with
  | here => exact .step .here hi (Nat.le_refl _) hik hf
  | @step m j h1 h2 h3 h4 h5 ih => exact .step ih h2 (by omega) h4 h5

/- Formulas over nodes that say what val says, at places as V, s steps from them. -/
def Byt (l : List Nat) : Prop := ∀ x ∈ l, x < 256
def Den (V : List Nat → List Nat → Nat → Nat → Prop) (s : Nat) (val : List Nat → List Nat → Nat → Nat → Bool) (ms : List Nd) (f : Fm) : Prop := ∀ (l bits : List Nat) (i j : Nat), V l bits i j → fP (fun n => nodeT l bits ms n (i + s) j) f = val l bits i j
/-- Any place. -/
def V0 (l bits : List Nat) (i j : Nat) : Prop := Byt l ∧ i ≤ j ∧ j ≤ l.length
/-- A place ahead of byte b, at such looks. -/
def V1 (b bt : Nat) (l bits : List Nat) (i j : Nat) : Prop := Byt l ∧ i < j ∧ j ≤ l.length ∧ (l[i]?).getD 0 = b ∧ (bits[i]?).getD 0 = bt
/-- Its numbers are nodes. -/
def InF (ns : List Nd) (f : Fm) : Prop := ∀ p ∈ f, ∀ n ∈ p, isIn ns n
theorem InF.up {ns : List Nd} {f : Fm} (h : InF ns f) (more : List Nd) : InF (ns ++ more) f := fun p hp n hn => (h p hp n hn).up more
theorem fP_up {l bits : List Nat} {ns : List Nd} {f : Fm} (h : InF ns f) (more : List Nd) (i j : Nat) : fP (fun n => nodeT l bits (ns ++ more) n i j) f = fP (fun n => nodeT l bits ns n i j) f := fP_agree (fun p hp n hn => by rw [nodeT_up l bits more (h p hp n hn)])
theorem Den.up {V : List Nat → List Nat → Nat → Nat → Prop} {s : Nat} {val : List Nat → List Nat → Nat → Nat → Bool} {ms : List Nd} {f : Fm} (h : Den V s val ms f) (hi : InF ms f) (more : List Nd) : Den V s val (ms ++ more) f := fun l bits i j hv => by rw [fP_up hi more]; exact h l bits i j hv
theorem Den.val {V : List Nat → List Nat → Nat → Nat → Prop} {s : Nat} {val val' : List Nat → List Nat → Nat → Nat → Bool} {ms : List Nd} {f : Fm} (h : Den V s val ms f) (he : ∀ l bits i j, V l bits i j → val l bits i j = val' l bits i j) : Den V s val' ms f := fun l bits i j hv => by rw [h l bits i j hv, he l bits i j hv]
/-- The formula of a node; what is left of it behind a byte. -/
def ndTv (ns : List Nd) (x : Int) (l bits : List Nat) (i j : Nat) : Bool := nodeT l bits ns x i j
def OfR (ns : List Nd) (x : Int) (ms : List Nd) (f : Fm) : Prop := Den V0 0 (ndTv ns x) ms f
def LeftR (ns : List Nd) (x : Int) (b bt : Nat) (ms : List Nd) (f : Fm) : Prop := Den (V1 b bt) 1 (ndTv ns x) ms f
theorem ndTv_up {ns : List Nd} {x : Int} (hx : isIn ns x) (more : List Nd) : ndTv (ns ++ more) x = ndTv ns x := by
  funext l bits i j
  unfold ndTv
  rw [nodeT_up l bits more hx]
theorem OfR.from {ns : List Nd} {x : Int} {ms : List Nd} {f : Fm} {more : List Nd} (h : OfR (ns ++ more) x ms f) (hx : isIn ns x) : OfR ns x ms f := by unfold OfR at h; rw [ndTv_up hx] at h; exact h
theorem LeftR.from {ns : List Nd} {x : Int} {b bt : Nat} {ms : List Nd} {f : Fm} {more : List Nd} (h : LeftR (ns ++ more) x b bt ms f) (hx : isIn ns x) : LeftR ns x b bt ms f := by unfold LeftR at h; rw [ndTv_up hx] at h; exact h
/-- What the Not of x matches. -/
def ndNv (ns : List Nd) (x : Int) (l bits : List Nat) (i j : Nat) : Bool := !nodeT l bits ns x i j
theorem ndNv_up {ns : List Nd} {x : Int} (hx : isIn ns x) (more : List Nd) : ndNv (ns ++ more) x = ndNv ns x := by
  funext l bits i j
  unfold ndNv
  rw [nodeT_up l bits more hx]
/-- x, and behind it y. -/
def ndCv (ns : List Nd) (y x : Int) (l bits : List Nat) (i j : Nat) : Bool := thenF (nodeT l bits ns x) (nodeT l bits ns y) (l.length + 1) i j
theorem ndCv_up {ns : List Nd} {x y : Int} (hx : isIn ns x) (hy : isIn ns y) (more : List Nd) : ndCv (ns ++ more) y x = ndCv ns y x := by
  funext l bits i j
  unfold ndCv
  rw [nodeT_up l bits more hx, nodeT_up l bits more hy]
section
variable {ns : List Nd} (hf : FineN ns) {x : Int} (hx : isIn ns x) {ms : List Nd}
include hf hx
/- Or, And by what they are made of. -/
theorem den_mem4 {V : List Nat → List Nat → Nat → Nat → Prop} {s : Nat} {L : List Int} {f : Fm} (hm : ∀ y, y ∈ L ↔ y ∈ mem ns 4 x) (h : Den V s (fun l bits i j => L.any (fun y => ndTv ns y l bits i j)) ms f) : Den V s (ndTv ns x) ms f := h.val (fun l bits i j _ => by
  unfold ndTv
  rw [or_table hf _ x (Nat.le_refl _) hx, Bool.eq_iff_iff, List.any_eq_true, List.any_eq_true]
  exact ⟨fun ⟨y, a, c⟩ => ⟨y, (hm y).1 a, c⟩, fun ⟨y, a, c⟩ => ⟨y, (hm y).2 a, c⟩⟩)
theorem den_mem5 {V : List Nat → List Nat → Nat → Nat → Prop} {s : Nat} {L : List Int} {f : Fm} (hm : ∀ y, y ∈ L ↔ y ∈ mem ns 5 x) (h : Den V s (fun l bits i j => L.all (fun y => ndTv ns y l bits i j)) ms f) : Den V s (ndTv ns x) ms f := h.val (fun l bits i j _ => by
  unfold ndTv
  rw [and_table hf _ x (Nat.le_refl _) hx, Bool.eq_iff_iff, List.all_eq_true, List.all_eq_true]
  exact ⟨fun a y hy => a y ((hm y).2 hy), fun a y hy => a y ((hm y).1 hy)⟩)
/- Nots of these. -/
theorem ndNv_mem4 {L : List Int} (hm : ∀ y, y ∈ L ↔ y ∈ mem ns 4 x) (l bits : List Nat) (i j : Nat) : L.all (fun y => ndNv ns y l bits i j) = ndNv ns x l bits i j := by
  unfold ndNv
  rw [or_table hf _ x (Nat.le_refl _) hx, Bool.eq_iff_iff, List.all_eq_true, Bool.not_eq_true', Bool.eq_false_iff]
  constructor
  · intro a h
    obtain ⟨y, hy, c⟩ := List.any_eq_true.1 h
    have := a y ((hm y).2 hy)
    rw [c] at this; cases this
  · intro a y hy
    rw [Bool.not_eq_true', Bool.eq_false_iff]
    exact fun c => a (List.any_eq_true.2 ⟨y, (hm y).1 hy, c⟩)
theorem ndNv_mem5 {L : List Int} (hm : ∀ y, y ∈ L ↔ y ∈ mem ns 5 x) (l bits : List Nat) (i j : Nat) : L.any (fun y => ndNv ns y l bits i j) = ndNv ns x l bits i j := by
  unfold ndNv
  rw [and_table hf _ x (Nat.le_refl _) hx, Bool.eq_iff_iff, List.any_eq_true, Bool.not_eq_true', Bool.eq_false_iff]
  constructor
  · rintro ⟨y, hy, c⟩ h
    have := List.all_eq_true.1 h y ((hm y).1 hy)
    rw [this] at c; cases c
  · intro a
    refine Classical.byContradiction fun hno => a (List.all_eq_true.2 (fun y hy => ?_))
    cases q : nodeT l bits ns y i j with
    | true => rfl
    | false => exact absurd ⟨y, (hm y).2 hy, by rw [q]; rfl⟩ hno
theorem ndTv_not (k : kd ns x = 6) (l bits : List Nat) {i j : Nat} (h : i ≤ j) : ndTv ns x l bits i j = ndNv ns (ka ns x) l bits i j := by
  unfold ndTv ndNv
  rw [T_not hf hx k, otherF_at h]
/- The formula of a node. -/
theorem of_no (k : kd ns x = 0) : OfR ns x ms [] := fun l bits i j _ => by rw [fP_false]; unfold ndTv; rw [T_no hf hx k]; rfl
omit hf hx in
theorem of_self : OfR ns x ns [[x]] := fun l bits i j _ => by rw [fP_atom]; rfl
theorem of_all (k : kd ns x = 6) (k' : kd ns (ka ns x) = 0) : OfR ns x ms [[]] := fun l bits i j hv => by
  obtain ⟨a0, _⟩ := in_one hf hx (by omega)
  rw [fP_true, ndTv_not hf hx k l bits hv.2.1]
  unfold ndNv
  rw [T_no hf a0 k']; rfl
/- What is left of a node. -/
theorem left_no {b bt : Nat} (k : kd ns x = 0 ∨ kd ns x = 1 ∨ kd ns x = 8) : LeftR ns x b bt ms [] := fun l bits i j hv => by
  have := hv.2.1
  rw [fP_false]
  unfold ndTv
  rcases k with k | k | k
  · rw [T_no hf hx k]; rfl
  · rw [T_em hf hx k]; unfold eqF; exact (decide_eq_false (by omega)).symm
  · rw [T_look hf hx k]; unfold bitF; rw [decide_eq_false (by omega), Bool.false_and]
theorem left_byte {b bt : Nat} (k : kd ns x = 2) (hb : (ndAt ns x.toNat).set.has b = true) {e : Int} {em : List Nd} (hfe : FineN em) (he : isIn em e) (hk : kd em e = 1) {f : Fm} (h : OfR em e ms f) : LeftR ns x b bt ms f := fun l bits i j hv => by
  rw [h l bits (i + 1) j ⟨hv.1, hv.2.1, hv.2.2.1⟩]
  unfold ndTv
  rw [T_em hfe he hk, T_bytes hf hx k]
  unfold byteF eqF
  rw [hv.2.2.2.1, hb, Bool.and_true, Bool.eq_iff_iff, decide_eq_true_eq, decide_eq_true_eq]
  have := hv.2.1
  have := hv.2.2.1
  omega
theorem left_byteNo {b bt : Nat} (k : kd ns x = 2) (hb : (ndAt ns x.toNat).set.has b = false) : LeftR ns x b bt ms [] := fun l bits i j hv => by
  rw [fP_false]
  unfold ndTv
  rw [T_bytes hf hx k]
  unfold byteF
  rw [hv.2.2.2.1, hb, Bool.and_false]
/-- Of a Not: the dual of what is left, each number by its Not. -/
theorem left_not {b bt : Nat} (k : kd ns x = 6) {f d h : Fm} {mid : List Nd} (ha : LeftR ns (ka ns x) b bt mid f) (hd : ∀ P, fP P d = !fP (fun n => !P n) f)
    (hs : Den V0 0 (fun l bits i j => d.any (fun p => p.all (fun n => ndNv mid n l bits i j))) ms h) : LeftR ns x b bt ms h := fun l bits i j hv => by
  have h1 := hs l bits (i + 1) j ⟨hv.1, hv.2.1, hv.2.2.1⟩
  have h2 := hd (fun n => ndNv mid n l bits (i + 1) j)
  have h3 := ha l bits i j hv
  show fP _ h = _
  refine h1.trans (h2.trans ?_)
  rw [ndTv_not hf hx k l bits (Nat.le_of_lt hv.2.1)]
  show _ = !ndTv ns (ka ns x) l bits i j
  rw [← h3]
  congr 1
  exact fP_agree (fun p hp n hn => by unfold ndNv; rw [Bool.not_not])
/-- f ahead of y. -/
def AheadV (ns : List Nd) (f : Fm) (y : Int) (l bits : List Nat) (i j : Nat) : Prop := ∃ q, i ≤ q ∧ q ≤ j ∧ fP (fun n => nodeT l bits ns n i q) f = true ∧ nodeT l bits ns y q j = true
theorem left_cat {b bt : Nat} (k : kd ns x = 3) {f a g h : Fm} {mid : List Nd} (ha : LeftR ns (ka ns x) b bt mid f) (hy : ∀ l bits, nodeT l bits mid (kb ns x) = nodeT l bits ns (kb ns x)) (hah : ∀ l bits i j, V0 l bits i j → (fP (fun n => nodeT l bits ms n i j) a = true ↔ AheadV mid f (kb ns x) l bits i j)) (hg : nullS ns bt (ka ns x) = true → LeftR ns (kb ns x) b bt ms g) (hh : ∀ P, fP P h = (fP P a || (nullS ns bt (ka ns x) && fP P g))) : LeftR ns x b bt ms h := fun l bits i j hv => by
  have hv' := hv
  obtain ⟨gB, g1, g2, g3, g4⟩ := hv
  obtain ⟨⟨a0, _⟩, b0, _⟩ := in_two hf hx (by omega)
  have hn := null_node (l := l) (bits := bits) hf a0 (show i ≤ l.length by omega) g4
  unfold ndTv
  rw [hh, T_cat hf hx k, Bool.eq_iff_iff, Bool.or_eq_true, Bool.and_eq_true, then_iff]
  constructor
  · rintro (h1 | ⟨h1, h2⟩)
    · obtain ⟨q, q1, q2, q3, q4⟩ := (hah l bits (i + 1) j ⟨gB, by omega, g2⟩).1 h1
      have q3' := (ha l bits i q ⟨gB, by omega, by omega, g3, g4⟩).symm.trans q3
      rw [hy] at q4
      exact ⟨q, by omega, by omega, q2, q3', q4⟩
    · have h2' := (hg h1 l bits i j hv').symm.trans h2
      exact ⟨i, by omega, Nat.le_refl _, by omega, by rw [hn]; exact h1, h2'⟩
  · rintro ⟨q, q0, q1, q2, q3, q4⟩
    by_cases e : q = i
    · subst e
      rw [hn] at q3
      exact Or.inr ⟨q3, (hg q3 l bits q j hv').trans q4⟩
    · refine Or.inl ((hah l bits (i + 1) j ⟨gB, by omega, g2⟩).2 ⟨q, by omega, q2, ?_, by rw [hy]; exact q4⟩)
      exact (ha l bits i q ⟨gB, by omega, by omega, g3, g4⟩).trans q3
theorem left_star {b bt : Nat} (k : kd ns x = 7) {f h : Fm} {mid : List Nd} (ha : LeftR ns (ka ns x) b bt mid f) (hy : ∀ l bits, nodeT l bits mid x = nodeT l bits ns x) (hah : ∀ l bits i j, V0 l bits i j → (fP (fun n => nodeT l bits ms n i j) h = true ↔ AheadV mid f x l bits i j)) : LeftR ns x b bt ms h := fun l bits i j hv => by
  obtain ⟨gB, g1, g2, g3, g4⟩ := hv
  rw [Bool.eq_iff_iff, hah l bits (i + 1) j ⟨gB, by omega, g2⟩]
  have hw : ∀ k, k ≤ l.length → (nodeT l bits ns x k j = true ↔ Ways (nodeT l bits ns (ka ns x)) (l.length + 1) k j) := fun q hq => by rw [T_star hf hx k]; exact any_iff (by omega)
  unfold ndTv
  rw [hw i (by omega)]
  constructor
  · rintro ⟨q, q1, q2, q3, q4⟩
    have q3' := (ha l bits i q ⟨gB, by omega, by omega, g3, g4⟩).symm.trans q3
    rw [hy, hw q (by omega)] at q4
    exact ways_back q3' (by omega) (by omega) q4
  · intro hW
    obtain ⟨q, q1, q2, q3, q4⟩ := ways_front hW g1 (by omega)
    exact ⟨q, by omega, q2, (ha l bits i q ⟨gB, by omega, by omega, g3, g4⟩).trans q3, by rw [hy, hw q (by omega)]; exact q4⟩
end
/- f ahead of y, by its numbers; by its node z. -/
theorem ahead_one {ns ms : List Nd} {f h : Fm} {y : Int} (h1 : ∀ p ∈ f, p.length = 1) (hs : Den V0 0 (fun l bits i j => f.any (fun p => p.all (fun n => ndCv ns y n l bits i j))) ms h) (l bits : List Nat) (i j : Nat) (hv : V0 l bits i j) : fP (fun n => nodeT l bits ms n i j) h = true ↔ AheadV ns f y l bits i j := by
  have hs' : fP (fun n => nodeT l bits ms n i j) h = f.any (fun p => p.all (fun n => ndCv ns y n l bits i j)) := hs l bits i j hv
  have hone : ∀ p ∈ f, ∃ n, p = [n] := fun p hp => by
    have := h1 p hp
    match p, this with
    | [n], _ => exact ⟨n, rfl⟩
  have g2 := hv.2.2
  rw [hs', List.any_eq_true]
  constructor
  · rintro ⟨p, hp, ht⟩
    obtain ⟨n, rfl⟩ := hone p hp
    rw [List.all_cons, List.all_nil, Bool.and_true] at ht
    obtain ⟨q, _, q1, q2, q3, q4⟩ := (then_iff _ _ _ _ _).1 ht
    exact ⟨q, q1, q2, List.any_eq_true.2 ⟨[n], hp, by rw [List.all_cons, List.all_nil, Bool.and_true]; exact q3⟩, q4⟩
  · rintro ⟨q, q1, q2, q3, q4⟩
    obtain ⟨p, hp, ht⟩ := List.any_eq_true.1 q3
    obtain ⟨n, rfl⟩ := hone p hp
    rw [List.all_cons, List.all_nil, Bool.and_true] at ht
    exact ⟨[n], hp, by rw [List.all_cons, List.all_nil, Bool.and_true]; exact (then_iff _ _ _ _ _).2 ⟨q, by omega, q1, q2, ht, q4⟩⟩
theorem ahead_node {ns mid ms : List Nd} {f h : Fm} {y z : Int} (hz : ∀ (l bits : List Nat) (i j : Nat), V0 l bits i j → nodeT l bits mid z i j = fP (fun n => nodeT l bits ns n i j) f) (hy : ∀ l bits, nodeT l bits mid y = nodeT l bits ns y) (hc : Den V0 0 (ndCv mid y z) ms h) (l bits : List Nat) (i j : Nat) (hv : V0 l bits i j) : fP (fun n => nodeT l bits ms n i j) h = true ↔ AheadV ns f y l bits i j := by
  have hc' : fP (fun n => nodeT l bits ms n i j) h = ndCv mid y z l bits i j := hc l bits i j hv
  have g1 := hv.2.1
  have g2 := hv.2.2
  rw [hc']
  unfold ndCv
  rw [then_iff]
  constructor
  · rintro ⟨q, _, q1, q2, q3, q4⟩
    rw [hz l bits i q ⟨hv.1, q1, by omega⟩] at q3
    rw [hy] at q4
    exact ⟨q, q1, q2, q3, q4⟩
  · rintro ⟨q, q1, q2, q3, q4⟩
    exact ⟨q, by omega, q1, q2, by rw [hz l bits i q ⟨hv.1, q1, by omega⟩]; exact q3, by rw [hy]; exact q4⟩

end Go.Proofs.YthifbaacmohmnaaGreat

/- What has turned: one step behind another. -/
namespace Go.Proofs.YthifbaacmohmnaaGreat
open Go.RowKit
set_option linter.unusedVariables false

theorem OffF.then {F : Nat → Prop} {w w1 w2 : World} (h : OffF F w w1) (hb : Below w1.heap.size w1 w2) : OffF F w w2 :=
  ⟨hb.os.trans h.os, hb.tape.trans h.tape, hb.output.trans h.output, Nat.le_trans h.size hb.size, fun b hlt hn => (hb.block b (Nat.lt_of_lt_of_le hlt h.size)).trans (h.block b hlt hn)⟩
theorem OffF.off {F F' : Nat → Prop} {w w1 w2 : World} (h : OffF F w w1) (h2 : OffF F' w1 w2) (hF : ∀ b, F' b → F b ∨ w.heap.size ≤ b) : OffF F w w2 :=
  ⟨h2.os.trans h.os, h2.tape.trans h.tape, h2.output.trans h.output, Nat.le_trans h.size h2.size, fun b hlt hn => (h2.block b (Nat.lt_of_lt_of_le hlt h.size) (fun q => by
    rcases hF b q with c | c
    · exact hn c
    · omega)).trans (h.block b hlt hn)⟩
theorem OffF.grown {F : Nat → Prop} {w w1 w2 : World} {row : Option Nat} (h : OffF F w w1) (hg : w1.grownBy w2 row) (hr : ∀ b, row = some b → F b ∨ w.heap.size ≤ b) : OffF F w w2 :=
  ⟨hg.os.trans h.os, hg.tape.trans h.tape, hg.output.trans h.output, Nat.le_trans h.size hg.size, fun b hlt hn => (hg.block b (Nat.lt_of_lt_of_le hlt h.size) (fun e => by
    rcases hr b e.symm with c | c
    · exact hn c
    · omega)).trans (h.block b hlt hn)⟩
theorem OffF.set {F : Nat → Prop} {w w1 : World} {g i : Nat} (h : OffF F w w1) (hg : F g) (v : Value) : OffF F w (w1.setCell ⟨g, i, none⟩ v) :=
  ⟨h.os, h.tape, h.output, (by rw [World.size_setCell]; exact h.size), fun b hlt hn => by
    rw [Below.heap_setCell w1 ⟨g, i, none⟩ v b (fun e => hn (by rw [e]; exact hg))]
    exact h.block b hlt hn⟩

end Go.Proofs.YthifbaacmohmnaaGreat

/- What a package of what is left does, of any way to read an arena out of the memory. -/
namespace Go.Proofs.YthifbaacmohmnaaGreat
open Go.RowKit
set_option linter.unusedVariables false

/-- A formula that stays whatever the arena does. -/
def Keeps (F : Nat → Prop) (w : World) (v : Value) (f : Fm) : Prop := ∀ w', OffF F w w' → FmAt w' v f
theorem Keeps.here {F : Nat → Prop} {w : World} {v : Value} {f : Fm} (h : Keeps F w v f) : FmAt w v f := h w ⟨rfl, rfl, rfl, Nat.le_refl _, fun _ _ _ => rfl⟩
theorem Keeps.step {F F' : Nat → Prop} {w w1 : World} {v : Value} {f : Fm} (h : Keeps F w v f) (ho : OffF F w w1) (hl : ∀ b, F' b → F b ∨ w.heap.size ≤ b) : Keeps F' w1 v f := fun w' q => h w' (ho.off q hl)
theorem Keeps.next {F : Nat → Prop} {w w1 : World} {v : Value} {f : Fm} (h : Keeps F w v f) (hb : Below w.heap.size w w1) : Keeps F w1 v f := h.step (OffF.of hb) (fun b q => Or.inl q)
/-- What a call answers: a formula over nodes that have come, or that there were too many. -/
def Fmla (AA : World → Value → List Nd → (Nat → Prop) → Prop) (Good : List Nd → Fm → Prop) (w : World) (a : Value) (ns : List Nd) (F : Nat → Prop) (R : List Nd → Fm → Prop) (e : Ending) (w' : World) : Prop :=
  ∃ (A : Option Addr) (n c : Nat) (er : Int) (f : Fm) (more : List Nd) (F' : Nat → Prop), e = .returned (.tuple #[.slice A n c, .int .i64 er]) ∧ AA w' a (ns ++ more) F' ∧ (∀ b, F' b → F b ∨ w.heap.size ≤ b) ∧ OffF F w w' ∧ (er = 4 ∨ (er = 0 ∧ Keeps F' w' (.slice A n c) f ∧ Good (ns ++ more) f ∧ R (ns ++ more) f))
structure LinSpec (AA : World → Value → List Nd → (Nat → Prop) → Prop) (Good : List Nd → Fm → Prop) : Prop where
  awake : ∀ w : World, Calls Tryz.prog 5 #[] w fun e w' => e = .returned (.bool true) ∧ Below w.heap.size w w'
  formed : ∀ {ns : List Nd} {f : Fm}, Good ns f → fmS f = true
  inF : ∀ {ns : List Nd} {f : Fm}, Good ns f → InF ns f
  ofNo : ∀ {w : World} {a : Value} {ns : List Nd} {F : Nat → Prop} (id : Int), AA w a ns F → I64 id → ¬ isIn ns id → Calls Tryz.prog 8 #[a, .int .i64 id] w fun e w' => ∃ (A : Option Addr) (c : Nat), e = .returned (.tuple #[.slice A 0 c, .int .i64 1]) ∧ AA w' a ns F ∧ Below w.heap.size w w'
  of : ∀ {w : World} {a : Value} {ns : List Nd} {F : Nat → Prop} (id : Int), AA w a ns F → isIn ns id → Calls Tryz.prog 8 #[a, .int .i64 id] w (Fmla AA Good w a ns F fun ms f => OfR ns id ms f)
  next : ∀ {w : World} {a : Value} {ns : List Nd} {F : Nat → Prop} {A : Option Addr} {n c : Nat} {f : Fm} (b bt : Nat), AA w a ns F → Keeps F w (.slice A n c) f → Good ns f → b < 256 → bt < 256 → Calls Tryz.prog 14 #[a, .slice A n c, .int .u8 b, .int .u8 bt] w (Fmla AA Good w a ns F fun ms h => Den (V1 b bt) 1 (fun l bits i j => f.any (fun p => p.all (fun x => ndTv ns x l bits i j))) ms h)
  accepts : ∀ {w : World} {a : Value} {ns : List Nd} {F : Nat → Prop} {A : Option Addr} {n c : Nat} {f : Fm} (bt : Nat), AA w a ns F → FmAt w (.slice A n c) f → Good ns f → bt < 256 → Calls Tryz.prog 13 #[a, .slice A n c, .int .u8 bt] w fun e w' => e = .returned (.bool (fP (fun x => nullS ns bt x) f)) ∧ Below w.heap.size w w'

end Go.Proofs.YthifbaacmohmnaaGreat

/- bolterlaw09.awake, by what an arena does. -/
namespace Go.Proofs.YthifbaacmohmnaaGreat
open Go.RowKit
set_option linter.unusedSimpArgs false
set_option linter.unusedVariables false
theorem noSt_ok : noSt.Ok := ⟨by show (0 : Nat) < _; decide, by show (0 : Nat) < _; decide, by show (0 : Nat) < _; decide, by show (0 : Nat) < _; decide⟩
section
variable {AA : World → Value → List Nd → (Nat → Prop) → Prop}

end

end Go.Proofs.YthifbaacmohmnaaGreat

/- bolterlaw09.ArenaPuts, by what an arena does. -/
namespace Go.Proofs.YthifbaacmohmnaaGreat
open Go.RowKit
set_option linter.unusedSimpArgs false
set_option linter.unusedVariables false

theorem fewN (A : Option Addr) (n c : Nat) (w : World) (v : Bool) (hv : decide (n ≤ 40) = v) : Calls Tryz.prog 6 #[.slice A n c] w fun e w' => e = .returned (.bool v) ∧ w = w' := by
  subst hv
  go_enter Tryz.func6, Tryz.ntmps6
  go_wp2_with fail
  go_ret
  refine ⟨?_, rfl⟩
  show Ending.returned (.bool (decide ((n : Int) ≤ 40))) = _
  by_cases h : n ≤ 40
  · rw [decide_eq_true h, decide_eq_true (by omega)]
  · rw [decide_eq_false h, decide_eq_false (by omega)]
theorem findN_le (ns : List Nd) (x : Nd) : findN ns x ≤ ns.length := List.findIdx_le_length
theorem findN_at {ns : List Nd} {x : Nd} (h : findN ns x < ns.length) : ndAt ns (findN ns x) = x := by
  rw [ndAt_lt h]
  have := @List.findIdx_getElem Nd (fun y => y.eqb x) ns h
  exact (Nd.eqb_iff _ _).1 this
theorem findN_not {ns : List Nd} {x : Nd} {t : Nat} (h : t < findN ns x) : (ndAt ns t).eqb x = false := by
  have hl := findN_le ns x
  rw [ndAt_lt (by omega)]
  have := List.not_of_lt_findIdx h
  simpa using this
theorem put_at {ns : List Nd} {x : Nd} (hr : x.right ns.length = true) : findN ns x < (putS ns x).length ∧ ndAt (putS ns x) (findN ns x) = x := by
  unfold putS
  rw [if_pos hr]
  by_cases h : findN ns x < ns.length
  · rw [if_pos h]; exact ⟨h, findN_at h⟩
  · rw [if_neg h]
    have e : findN ns x = ns.length := by have := findN_le ns x; omega
    refine ⟨by rw [e, List.length_append]; simp, ?_⟩
    unfold ndAt
    rw [e, List.getElem?_append_right (Nat.le_refl _), Nat.sub_self]; rfl

-- the walk
theorem NdRow.off {w w' : World} {base : Nat} {v : Value} {l : List Nd} {F : Nat → Prop} (h : NdRow w base v l) (ho : OffF F w w') (hn : ∀ b, F b → v.ownBlock ≠ some b) : NdRow w' base v l := by
  obtain ⟨h1, h2⟩ := id h
  refine ⟨h1, ?_⟩
  rcases h2 with ⟨e, q⟩ | ⟨g, cap, cur, e, hb, hc, r⟩
  · exact Or.inl ⟨e, q⟩
  · refine Or.inr ⟨g, cap, cur, e, hb, ?_, r⟩
    have hlt := (World.ownsRow.lt h g (by rw [e]; rfl)).2
    exact (ho.block g hlt (fun q => hn g q (by rw [e]; rfl))).trans hc
section
variable {AA : World → Value → List Nd → (Nat → Prop) → Prop}

end

end Go.Proofs.YthifbaacmohmnaaGreat

/- bolterlaw09.Places: what is seen at so many places, of a list as long as may be; in new memory. -/
namespace Go.Proofs.YthifbaacmohmnaaGreat
open Go.RowKit
set_option linter.unusedVariables false

theorem info_u8p : (Tryz.prog.info? 5).map (fun i => (i.zero, i.size, i.bytes)) = some (some (.int .u8 0), 1, 1) := by kernel_rfl
def placesS (l : List Nat) (m : Nat) : List Nat := (List.range m).map (fun k => (l[k]?).getD 0)
theorem placesS_length (l : List Nat) (m : Nat) : (placesS l m).length = m := by simp [placesS]
theorem placesS_get (l : List Nat) (m k : Nat) (h : k < (placesS l m).length) : (placesS l m)[k] = (l[k]?).getD 0 := by simp [placesS]
def plTo (l : List Nat) (i k : Nat) : Nat := if k < i then (l[k]?).getD 0 else 0
def plRow (l : List Nat) (m i : Nat) : Array Value := arr m (fun k => .int .u8 (plTo l i k : Nat))
theorem plRow_zero (l : List Nat) (m : Nat) : plRow l m 0 = madeCells #[.int .u8 0] m := by
  unfold plRow arr madeCells
  apply Array.ext_getElem?
  intro i
  by_cases hi : i < m
  · simp [hi, Nat.mod_one, plTo]
  · simp [hi]
theorem plRow_set (l : List Nat) (m i : Nat) (x : Nat) (hx : (l[i]?).getD 0 = x) : (plRow l m i).setIfInBounds i (.int .u8 (x : Nat)) = plRow l m (i + 1) := by
  unfold plRow
  rw [arr_set]
  apply arr_congr
  intro k hk
  by_cases e : k = i
  · subst e
    rw [if_pos rfl]
    unfold plTo
    rw [if_pos (by omega), hx]
  · rw [if_neg e]
    unfold plTo
    by_cases c : k < i
    · rw [if_pos c, if_pos (by omega)]
    · rw [if_neg c, if_neg (by omega)]
theorem plRow_skip (l : List Nat) (m i : Nat) (h : l.length ≤ i) : plRow l m i = plRow l m (i + 1) := by
  unfold plRow
  apply arr_congr
  intro k hk
  unfold plTo
  by_cases c : k < i
  · rw [if_pos c, if_pos (by omega)]
  · rw [if_neg c]
    split
    · rw [List.getElem?_eq_none (by omega)]; rfl
    · rfl

set_option maxRecDepth 100000 in
set_option maxHeartbeats 2000000 in
theorem lawPlaces (A : Option Addr) (n c : Nat) (l : List Nat) (m : Nat) (hm : m ≤ 1000) (w : World) (h : IsBytes w A n l) :
    Calls Tryz.prog 10 #[.slice A n c, .int .i64 m] w fun e w' => ∃ g, e = .returned (.slice (some ⟨g, 0, none⟩) m m) ∧ IsBytes w' (some ⟨g, 0, none⟩) m (placesS l m) ∧ w.heap.size ≤ g ∧ Below w.heap.size w w' := by
  have HI := Lib.hid h
  have hl : n = l.length := h.1
  have HL := Lib.hid hl
  have hn63 : n ≤ 9223372036854775807 := h.2.1
  clear h hl
  have hm1 := run_make_row' (P := Tryz.prog) 23 5 (.int .u8 0) 1 Tryz.underlying23 info_u8p rfl .i64 .i64 m (by omega) (by omega)
  rw [← plRow_zero l m] at hm1
  go_enter Tryz.func10, Tryz.ntmps10
  go_wp2_with fail
  clear hm1
  obtain ⟨g, hg⟩ : ∃ g, g = w.heap.size := ⟨_, rfl⟩
  have HG := Lib.hid hg
  have HT0 : Hid (At (w.alloc (Obj.cells (plRow l m 0) 5)) g 5 (plRow l m 0)) := by rw [hg]; exact At.new _ _ _
  rw [← hg]
  clear hg
  go_loopw [11] (fun x wr => ∃ i : Nat, i ≤ m ∧ x = .int .i64 i ∧ Hid (At wr g 5 (plRow l m i)) ∧ Hid (Below w.heap.size w wr)) (fun x _ => m - (intOf x).toNat)
  case atStart => exact ⟨0, Nat.zero_le _, rfl, HT0, Lib.hid ((Below.refl _ _).alloc (Nat.le_refl _) _)⟩
  case round =>
    obtain ⟨i, hi, rfl, hT, hB⟩ := hrel
    by_cases hlt : i < m
    · have hi0 : (0 : Int) ≤ (i : Int) := by omega
      have him : (i : Int) < (m : Int) := by omega
      by_cases hin : i < n
      · have hlt' : i < l.length := by have := HL.out; omega
        obtain ⟨b, off, rfl, hb, hc⟩ := (HI.out.below hB.out).2.2.2 (by omega)
        have q1 := hc i hlt'
        have hx8 := HI.out.2.2.1 i hlt'
        obtain ⟨x, hx⟩ : ∃ x : Nat, l[i] = x := ⟨_, rfl⟩
        rw [hx] at q1 hx8
        have HX : Hid ((l[i]?).getD 0 = x) := by rw [List.getElem?_eq_getElem hlt', ← hx]; exact rfl
        clear hx hc hb
        have q2 := hT.out.cell i
        unfold plRow at q2
        rw [arr_get _ _ i hlt] at q2
        have q3 := hT.out.free i
        have hin' : (i : Int) < (n : Int) := by omega
        go_wp2_with fail
        refine ⟨⟨i + 1, by omega, by go_num, Lib.hid ?_, Lib.hid (hB.out.setCell (by have := HG.out; dsimp only; omega) _)⟩, by simp [intOf]; omega⟩
        have h1 := hT.out.set i (.int .u8 (x : Nat))
        rw [plRow_set l m i x HX.out] at h1
        exact h1
      · have hin' : ¬ (i : Int) < (n : Int) := by omega
        have HS := Lib.hid (plRow_skip l m i (by have := HL.out; omega))
        go_wp2_with fail
        refine ⟨⟨i + 1, by omega, by go_num, Lib.hid ?_, hB⟩, by simp [intOf]; omega⟩
        rw [← HS.out]; exact hT.out
    · obtain rfl : i = m := by omega
      go_wp2_with fail
      go_ret
      refine ⟨g, rfl, ⟨by rw [placesS_length], by omega, fun k hk => ?_, fun hn0 => ⟨g, 0, rfl, hT.out.lt, fun k hk => ?_⟩⟩, by have := HG.out; omega, hB.out⟩
      · rw [placesS_get]
        by_cases hkl : k < l.length
        · rw [List.getElem?_eq_getElem hkl]; exact HI.out.2.2.1 k hkl
        · rw [List.getElem?_eq_none (by omega)]; decide
      · have hk' : k < i := by rw [placesS_length] at hk; exact hk
        rw [Nat.zero_add, hT.out.cell k]
        unfold plRow
        rw [arr_get _ _ k hk', placesS_get]
        unfold plTo
        rw [if_pos hk']

end Go.Proofs.YthifbaacmohmnaaGreat

/- What the reference's Has answers, of any set and byte. -/
namespace Go.Proofs.YthifbaacmohmnaaGreat
open Go.RowKit

theorem ret_bool {a b : Bool} (h : a = b) : Ending.returned (.bool a) = .returned (.bool b) := by rw [h]
theorem St.has_of (s : St) (b q r : Nat) (hb : b = 64 * q + r) (hr : r < 64) : s.has b = (s.word q).testBit r := by
  unfold St.has; rw [show b / 64 = q from by omega, show b % 64 = r from by omega]

set_option maxHeartbeats 400000 in
theorem refHas (s : St) (hs : s.Ok) (b : Nat) (hb : b < 256) (w : World) :
    Calls Tryz.prog 30 #[.agg #[.int .u64 s.w0, .int .u64 s.w1, .int .u64 s.w2, .int .u64 s.w3], .int .i64 b] w fun e w' => e = .returned (.bool (s.has b)) ∧ Below w.heap.size w w' := by
  obtain ⟨r, hr⟩ : ∃ r : Nat, r = b % 64 := ⟨_, rfl⟩
  have hm : (b : Int) % 64 = r := by omega
  have hq : b / 64 = 0 ∨ b / 64 = 1 ∨ b / 64 = 2 ∨ b / 64 = 3 := by omega
  have hr' : r < 64 := by omega
  rcases hq with hq | hq | hq | hq
  · have hd : (b : Int) / 64 = 0 := by omega
    have HR := Lib.hid (s.has_of b 0 r (by omega) hr')
    clear hr hq
    go_enter Tryz.func30, Tryz.ntmps30
    go_wp2
    go_loop [5, 12] (fun x i => ∃ k : Nat, k ≤ r ∧ i = .int .i64 k ∧ x = .int .u64 (hv s.w0 k : Nat)) (fun _ i => r - (intOf i).toNat)
    case atStart => exact ⟨0, Nat.zero_le _, rfl, by rw [hv_zero]⟩
    case round =>
      obtain ⟨k, hk, rfl, rfl⟩ := hrel
      by_cases hlt : k < r
      · go_wp2
        go_round
        case rel => exact ⟨k + 1, by omega, by go_num, by rw [hv_half' _ _ hs.o0]⟩
        case measure => simp [intOf]; omega
      · have hkr : k = r := by omega
        subst hkr
        go_wp2
        go_ret
        exact ⟨ret_bool ((hv_bit' _ _).trans HR.out.symm), (Below.refl _ _).alloc (Nat.le_refl _) _⟩
  · have hd : (b : Int) / 64 = 1 := by omega
    have HR := Lib.hid (s.has_of b 1 r (by omega) hr')
    clear hr hq
    go_enter Tryz.func30, Tryz.ntmps30
    go_wp2
    go_loop [5, 12] (fun x i => ∃ k : Nat, k ≤ r ∧ i = .int .i64 k ∧ x = .int .u64 (hv s.w1 k : Nat)) (fun _ i => r - (intOf i).toNat)
    case atStart => exact ⟨0, Nat.zero_le _, rfl, by rw [hv_zero]⟩
    case round =>
      obtain ⟨k, hk, rfl, rfl⟩ := hrel
      by_cases hlt : k < r
      · go_wp2
        go_round
        case rel => exact ⟨k + 1, by omega, by go_num, by rw [hv_half' _ _ hs.o1]⟩
        case measure => simp [intOf]; omega
      · have hkr : k = r := by omega
        subst hkr
        go_wp2
        go_ret
        exact ⟨ret_bool ((hv_bit' _ _).trans HR.out.symm), (Below.refl _ _).alloc (Nat.le_refl _) _⟩
  · have hd : (b : Int) / 64 = 2 := by omega
    have HR := Lib.hid (s.has_of b 2 r (by omega) hr')
    clear hr hq
    go_enter Tryz.func30, Tryz.ntmps30
    go_wp2
    go_loop [5, 12] (fun x i => ∃ k : Nat, k ≤ r ∧ i = .int .i64 k ∧ x = .int .u64 (hv s.w2 k : Nat)) (fun _ i => r - (intOf i).toNat)
    case atStart => exact ⟨0, Nat.zero_le _, rfl, by rw [hv_zero]⟩
    case round =>
      obtain ⟨k, hk, rfl, rfl⟩ := hrel
      by_cases hlt : k < r
      · go_wp2
        go_round
        case rel => exact ⟨k + 1, by omega, by go_num, by rw [hv_half' _ _ hs.o2]⟩
        case measure => simp [intOf]; omega
      · have hkr : k = r := by omega
        subst hkr
        go_wp2
        go_ret
        exact ⟨ret_bool ((hv_bit' _ _).trans HR.out.symm), (Below.refl _ _).alloc (Nat.le_refl _) _⟩
  · have hd : (b : Int) / 64 = 3 := by omega
    have HR := Lib.hid (s.has_of b 3 r (by omega) hr')
    clear hr hq
    go_enter Tryz.func30, Tryz.ntmps30
    go_wp2
    go_loop [5, 12] (fun x i => ∃ k : Nat, k ≤ r ∧ i = .int .i64 k ∧ x = .int .u64 (hv s.w3 k : Nat)) (fun _ i => r - (intOf i).toNat)
    case atStart => exact ⟨0, Nat.zero_le _, rfl, by rw [hv_zero]⟩
    case round =>
      obtain ⟨k, hk, rfl, rfl⟩ := hrel
      by_cases hlt : k < r
      · go_wp2
        go_round
        case rel => exact ⟨k + 1, by omega, by go_num, by rw [hv_half' _ _ hs.o3]⟩
        case measure => simp [intOf]; omega
      · have hkr : k = r := by omega
        subst hkr
        go_wp2
        go_ret
        exact ⟨ret_bool ((hv_bit' _ _).trans HR.out.symm), (Below.refl _ _).alloc (Nat.le_refl _) _⟩

theorem refHasV (s : St) (hs : s.Ok) (b : Nat) (hb : b < 256) (v : Bool) (hv : s.has b = v) (w : World) :
    Calls Tryz.prog 30 #[.agg #[.int .u64 s.w0, .int .u64 s.w1, .int .u64 s.w2, .int .u64 s.w3], .int .i64 b] w fun e w' => e = .returned (.bool v) ∧ Below w.heap.size w w' := by
  rw [← hv]; exact refHas s hs b hb w

end Go.Proofs.YthifbaacmohmnaaGreat
