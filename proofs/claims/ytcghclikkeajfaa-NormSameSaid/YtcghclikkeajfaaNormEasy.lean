/- The easy ones of norm: put, None, Empty, Look, Not. -/
import Derived.Test.YtcghclikkeajfaaMe
import Derived.Test.YtcghclikkeajfaaMf
import Derived.Test.YtcghclikkeajfaaMh
namespace Go.Proofs.Ytcghclikkeajfaa
open Go.RowKit
set_option linter.unusedSimpArgs false
set_option linter.unusedVariables false

section
variable {AA : World → Value → List Nd → (Nat → Prop) → Prop}
theorem Grows.mono {w : World} {a : Value} {ns : List Nd} {F : Nat → Prop} {R R' : List Nd → Int → Prop} {e : Ending} {w' : World} (g : Grows AA w a ns F R e w') (h : ∀ more r, R more r → R' more r) : Grows AA w a ns F R' e w' := by
  obtain ⟨r, more, F', g0, g1, g2, g3, g4, g5, g6⟩ := g
  exact ⟨r, more, F', g0, g1, g2, g3, g4, g5, h more r g6⟩
/-- From a later world on. -/
theorem Grows.from {w w1 w' : World} {a : Value} {ns : List Nd} {F : Nat → Prop} {R : List Nd → Int → Prop} {e : Ending} (g : Grows AA w1 a ns F R e w') (hb : Below w.heap.size w w1) : Grows AA w a ns F R e w' := by
  obtain ⟨r, more, F', g0, g1, g2, g3, g4, g5, g6⟩ := g
  refine ⟨r, more, F', g0, g1, fun b q => ?_, (OffF.of hb).off g3 (fun b q => Or.inl q), g4, g5, g6⟩
  rcases g2 b q with q | q
  · exact Or.inl q
  · exact Or.inr (Nat.le_trans hb.size q)
theorem fit_small (k a b : Int) (neg : Bool) (hk : I64 k) (ha : I64 a) (hb : I64 b) : NdFit (Nd.mk k noSt a b neg) := ⟨hk, ⟨by unfold U64; exact Nat.zero_lt_succ _, by unfold U64; exact Nat.zero_lt_succ _, by unfold U64; exact Nat.zero_lt_succ _, by unfold U64; exact Nat.zero_lt_succ _⟩, ha, hb⟩
def PutR (ns : List Nd) (x : Nd) (more : List Nd) (r : Int) : Prop := ndAt (ns ++ more) r.toNat = x ∧ more.length ≤ 1 ∧ (isIn ns r → more = [])

/-- The number of what is put, or -1. -/
def putR (ns : List Nd) (x : Nd) : Int := if x.right ns.length then putId ns x else -1
set_option maxRecDepth 100000 in
set_option maxHeartbeats 4000000 in
theorem nPutRaw (S : ArenaMid AA) {w : World} {a : Value} {ns : List Nd} {F : Nat → Prop} (x : Nd) (h : AA w a ns F) (hx : NdFit x) (hroom : ns.length < 20000) :
    Calls Try.prog 24 #[a, .agg x.cs.toArray] w fun e w' => ∃ F', e = .returned (.int .i64 (putR ns x)) ∧ AA w' a (putS ns x) F' ∧ (∀ b, F' b → F b ∨ w.heap.size ≤ b) ∧ OffF F w w' := by
  have HB : Hid (Below w.heap.size w (w.alloc (.cells x.cs.toArray 56))) := Lib.hid ((Below.refl _ _).alloc (Nat.le_refl _) _)
  obtain ⟨c0, c1, c2, c3, c4, c5, c6, c7⟩ := Nd.cells (At.new w 56 x.cs.toArray)
  have HP : Hid (Calls Try.prog 36 #[a, .agg #[.int .i64 x.kind, .int .u64 x.set.w0, .int .u64 x.set.w1, .int .u64 x.set.w2, .int .u64 x.set.w3, .int .i64 x.a, .int .i64 x.b, .bool x.neg]] (w.alloc (.cells x.cs.toArray 56)) fun e w' => ∃ F', e = .returned (.tuple #[.int .i64 (putId ns x), .int .i64 (putE ns x)]) ∧ AA w' a (putS ns x) F' ∧ (∀ b, F' b → F b ∨ (w.alloc (.cells x.cs.toArray 56)).heap.size ≤ b) ∧ OffF F (w.alloc (.cells x.cs.toArray 56)) w') := Lib.hid (S.put x (S.next h HB.out) hx hroom)
  have HG : Hid (∀ w1 F', AA w1 a (putS ns x) F' → (∀ b, F' b → F b ∨ (w.alloc (.cells x.cs.toArray 56)).heap.size ≤ b) → OffF F (w.alloc (.cells x.cs.toArray 56)) w1 → ∃ F', AA w1 a (putS ns x) F' ∧ (∀ b, F' b → F b ∨ w.heap.size ≤ b) ∧ OffF F w w1) := Lib.hid (fun w1 F' h1 h2 h3 => ⟨F', h1, fun b q => by
    rcases h2 b q with q | q
    · exact Or.inl q
    · exact Or.inr (Nat.le_trans HB.out.size q), (OffF.of HB.out).off h3 (fun b q => Or.inl q)⟩)
  clear h hx
  cases hr : x.right ns.length
  · have HE : Hid (putE ns x = 1) := Lib.hid (by unfold putE; rw [if_neg (by rw [hr]; simp)])
    have HR : Hid (putR ns x = -1) := Lib.hid (by unfold putR; rw [if_neg (by rw [hr]; simp)])
    clear hr
    go_enter Try.func24, Try.ntmps24
    go_wp2_with fail
    refine HP.out.mono ?_
    rintro e w1 ⟨F', rfl, hA1, hF1, ho1⟩
    rw [HE.out]
    have HH := Lib.hid (HG.out w1 F' hA1 hF1 ho1)
    clear hA1 hF1 ho1
    go_wp2_with fail
    go_ret
    obtain ⟨F2, q1, q2, q3⟩ := HH.out
    exact ⟨F2, by rw [HR.out]; rfl, q1, q2, q3⟩
  · have HE : Hid (putE ns x = 0) := Lib.hid (by unfold putE; rw [if_pos hr])
    have HR : Hid (putR ns x = putId ns x) := Lib.hid (by unfold putR; rw [if_pos hr])
    clear hr
    go_enter Try.func24, Try.ntmps24
    go_wp2_with fail
    refine HP.out.mono ?_
    rintro e w1 ⟨F', rfl, hA1, hF1, ho1⟩
    rw [HE.out]
    have HH := Lib.hid (HG.out w1 F' hA1 hF1 ho1)
    clear hA1 hF1 ho1
    go_wp2_with fail
    go_ret
    obtain ⟨F2, q1, q2, q3⟩ := HH.out
    exact ⟨F2, by rw [HR.out]; rfl, q1, q2, q3⟩
set_option maxRecDepth 100000 in
set_option maxHeartbeats 4000000 in
theorem nPutNo (S : ArenaMid AA) {w : World} {a : Value} {ns : List Nd} {F : Nat → Prop} (x : Nd) (h : AA w a ns F) (hx : NdFit x) (hr : x.right ns.length = false) :
    Calls Try.prog 24 #[a, .agg x.cs.toArray] w fun e w' => e = .returned (.int .i64 (-1)) ∧ Below w.heap.size w w' := by
  have HB : Hid (Below w.heap.size w (w.alloc (.cells x.cs.toArray 56))) := Lib.hid ((Below.refl _ _).alloc (Nat.le_refl _) _)
  obtain ⟨c0, c1, c2, c3, c4, c5, c6, c7⟩ := Nd.cells (At.new w 56 x.cs.toArray)
  have HP : Hid (Calls Try.prog 36 #[a, .agg #[.int .i64 x.kind, .int .u64 x.set.w0, .int .u64 x.set.w1, .int .u64 x.set.w2, .int .u64 x.set.w3, .int .i64 x.a, .int .i64 x.b, .bool x.neg]] (w.alloc (.cells x.cs.toArray 56)) fun e w' => e = .returned (.tuple #[.int .i64 0, .int .i64 1]) ∧ Below (w.alloc (.cells x.cs.toArray 56)).heap.size (w.alloc (.cells x.cs.toArray 56)) w') := Lib.hid (S.putNo x (S.next h HB.out) hx hr)
  clear h hx hr
  go_enter Try.func24, Try.ntmps24
  go_wp2_with fail
  refine HP.out.mono ?_
  rintro e w1 ⟨rfl, hb⟩
  have HB1 := Lib.hid (HB.out.trans (hb.mono HB.out.size))
  clear hb
  go_wp2_with fail
  go_ret
  exact ⟨rfl, HB1.out⟩
theorem nPut (S : ArenaMid AA) {w : World} {a : Value} {ns : List Nd} {F : Nat → Prop} (x : Nd) (h : AA w a ns F) (hc : Canon ns) (hx : NdFit x) (hr : x.right ns.length = true) (hl : Fits ns x) (hroom : ns.length < 20000) :
    Calls Try.prog 24 #[a, .agg x.cs.toArray] w (Grows AA w a ns F (PutR ns x)) := by
  refine (nPutRaw S x h hx hroom).mono ?_
  rintro e w1 ⟨F', rfl, hA1, hF1, ho1⟩
  obtain ⟨k1, k2, k3, ⟨more, km, kl⟩, k5⟩ := canon_put hc hr hx hl
  rw [km] at hA1 k1 k2 k3
  refine ⟨_, more, F', by unfold putR; rw [if_pos hr], hA1, hF1, ho1, k1, k2, k3, kl, fun q => ?_⟩
  have := k5 q
  rw [km] at this
  exact List.append_right_eq_self.1 this
theorem fits_bare {ns : List Nd} {k : Int} {neg : Bool} {a b : Int} {s : St} (h2 : k ≠ 2) (h3 : k ≠ 3) (h4 : k ≠ 4) (h5 : k ≠ 5) (h6 : k ≠ 6) (h7 : k ≠ 7) : Fits ns ⟨k, s, a, b, neg⟩ :=
  ⟨fun q => absurd q h3, fun k' hk' q => by dsimp only at q; omega, fun q => absurd q h6, fun q => absurd q h7, fun q => absurd q h2⟩

set_option maxRecDepth 100000 in
theorem nNone (S : ArenaMid AA) {w : World} {a : Value} {ns : List Nd} {F : Nat → Prop} (h : AA w a ns F) (hc : Canon ns) (hroom : ns.length + 4 ≤ 20000) : Calls Try.prog 7 #[a] w (Grows AA w a ns F fun more r => kd (ns ++ more) r = 0 ∧ more.length ≤ 1 ∧ (isIn ns r → more = [])) := by
  have HP := Lib.hid (nPut S ⟨0, noSt, 0, 0, false⟩ h hc (fit_small _ _ _ _ (by unfold I64; omega) (by unfold I64; omega) (by unfold I64; omega)) (by unfold Nd.right; rw [if_pos (Or.inl rfl)]; exact Nd.eqb_self _) (fits_bare (by decide) (by decide) (by decide) (by decide) (by decide) (by decide)) (by omega))
  clear h hc
  go_enter Try.func7, Try.ntmps7
  go_wp2_with fail
  refine HP.out.mono ?_
  rintro e w1 g
  obtain ⟨r, _, _, rfl, _⟩ := id g
  have HG := Lib.hid (g.mono (R' := fun more r => kd (ns ++ more) r = 0 ∧ more.length ≤ 1 ∧ (isIn ns r → more = [])) (fun more r q => ⟨by unfold kd; rw [q.1], q.2⟩))
  clear g
  go_wp2_with fail
  go_ret
  exact HG.out

set_option maxRecDepth 100000 in
theorem nEmpty (S : ArenaMid AA) {w : World} {a : Value} {ns : List Nd} {F : Nat → Prop} (h : AA w a ns F) (hc : Canon ns) (hroom : ns.length + 4 ≤ 20000) : Calls Try.prog 8 #[a] w (Grows AA w a ns F fun more r => kd (ns ++ more) r = 1 ∧ more.length ≤ 1 ∧ (isIn ns r → more = [])) := by
  have HP := Lib.hid (nPut S ⟨1, noSt, 0, 0, false⟩ h hc (fit_small _ _ _ _ (by unfold I64; omega) (by unfold I64; omega) (by unfold I64; omega)) (by unfold Nd.right; rw [if_pos (Or.inr rfl)]; exact Nd.eqb_self _) (fits_bare (by decide) (by decide) (by decide) (by decide) (by decide) (by decide)) (by omega))
  clear h hc
  go_enter Try.func8, Try.ntmps8
  go_wp2_with fail
  refine HP.out.mono ?_
  rintro e w1 g
  obtain ⟨r, _, _, rfl, _⟩ := id g
  have HG := Lib.hid (g.mono (R' := fun more r => kd (ns ++ more) r = 1 ∧ more.length ≤ 1 ∧ (isIn ns r → more = [])) (fun more r q => ⟨by unfold kd; rw [q.1], q.2⟩))
  clear g
  go_wp2_with fail
  go_ret
  exact HG.out

set_option maxRecDepth 100000 in
theorem nLook (S : ArenaMid AA) {w : World} {a : Value} {ns : List Nd} {F : Nat → Prop} (k : Int) (neg : Bool) (h : AA w a ns F) (hc : Canon ns) (hk : 0 ≤ k ∧ k < 4) (hroom : ns.length + 4 ≤ 20000) : Calls Try.prog 11 #[a, .int .i64 k, .bool neg] w (Grows AA w a ns F fun more r => kd (ns ++ more) r = 8 ∧ more.length ≤ 3) := by
  have HP := Lib.hid (nPut S ⟨8, noSt, k, 0, neg⟩ h hc (fit_small _ _ _ _ (by unfold I64; omega) (by unfold I64; omega) (by unfold I64; omega)) (by unfold Nd.right aIn; rw [if_neg (by simp), if_neg (by simp), if_neg (by simp), if_neg (by simp), if_pos rfl, Nd.eqb_self]; dsimp only; rw [decide_eq_true hk.1, decide_eq_true hk.2]; rfl) (fits_bare (by decide) (by decide) (by decide) (by decide) (by decide) (by decide)) (by omega))
  clear h hc
  go_enter Try.func11, Try.ntmps11
  go_wp2_with fail
  refine HP.out.mono ?_
  rintro e w1 g
  obtain ⟨r, _, _, rfl, _⟩ := id g
  have HG := Lib.hid (g.mono (R' := fun more r => kd (ns ++ more) r = 8 ∧ more.length ≤ 3) (fun more r q => ⟨by unfold kd; rw [q.1], by have := q.2.1; omega⟩))
  clear g
  go_wp2_with fail
  go_ret
  exact HG.out

set_option maxRecDepth 100000 in
theorem nLookNo (S : ArenaMid AA) {w : World} {a : Value} {ns : List Nd} {F : Nat → Prop} (k : Int) (neg : Bool) (h : AA w a ns F) (hk : I64 k) (hn : ¬ (0 ≤ k ∧ k < 4)) : Calls Try.prog 11 #[a, .int .i64 k, .bool neg] w fun e w' => e = .returned (.int .i64 (-1)) ∧ AA w' a ns F ∧ OffF F w w' := by
  have hr : (Nd.mk 8 noSt k 0 neg).right ns.length = false := by
    unfold Nd.right aIn
    rw [if_neg (by simp), if_neg (by simp), if_neg (by simp), if_neg (by simp), if_pos rfl, Nd.eqb_self]
    dsimp only
    by_cases h0 : 0 ≤ k
    · rw [decide_eq_true h0, decide_eq_false (show ¬ k < 4 by omega)]; rfl
    · rw [decide_eq_false h0]; simp
  have HP := Lib.hid (nPutNo S ⟨8, noSt, k, 0, neg⟩ h (fit_small _ _ _ _ (by unfold I64; omega) hk (by unfold I64; omega)) hr)
  have HA := Lib.hid h
  clear h hn hr
  go_enter Try.func11, Try.ntmps11
  go_wp2_with fail
  refine HP.out.mono ?_
  rintro e w1 ⟨rfl, hb⟩
  have HB := Lib.hid hb
  clear hb
  go_wp2_with fail
  go_ret
  exact ⟨rfl, S.next HA.out HB.out, OffF.of HB.out⟩

theorem fits_not {ns : List Nd} {x : Int} (h : kd ns x ≠ 6) : Fits ns (Nd.mk 6 noSt x 0 false) where
  cat := fun q => absurd q (show ¬ (6 : Int) = 3 by decide)
  join := fun k hk q => by have q : (6 : Int) = k := q; omega
  not := fun _ => h
  star := fun q => absurd q (show ¬ (6 : Int) = 7 by decide)
  bytes := fun q => absurd q (show ¬ (6 : Int) = 2 by decide)
theorem fits_star {ns : List Nd} {x : Int} (h0 : kd ns x ≠ 0) (h1 : kd ns x ≠ 1) (h7 : kd ns x ≠ 7) : Fits ns (Nd.mk 7 noSt x 0 false) where
  cat := fun q => absurd q (show ¬ (7 : Int) = 3 by decide)
  join := fun k hk q => by have q : (7 : Int) = k := q; omega
  not := fun q => absurd q (show ¬ (7 : Int) = 6 by decide)
  star := fun _ => ⟨h0, h1, h7⟩
  bytes := fun q => absurd q (show ¬ (7 : Int) = 2 by decide)
theorem fits_bytes {ns : List Nd} {s : St} (h : ∃ b, b < 256 ∧ s.has b = true) : Fits ns (Nd.mk 2 s 0 0 false) where
  cat := fun q => absurd q (show ¬ (2 : Int) = 3 by decide)
  join := fun k hk q => by have q : (2 : Int) = k := q; omega
  not := fun q => absurd q (show ¬ (2 : Int) = 6 by decide)
  star := fun q => absurd q (show ¬ (2 : Int) = 7 by decide)
  bytes := fun _ => h
theorem fits_cat {ns : List Nd} {x y : Int} (hx : kd ns x ≠ 0 ∧ kd ns x ≠ 1 ∧ kd ns x ≠ 3) (h0 : kd ns y ≠ 0) (h1 : kd ns y ≠ 1) : Fits ns (Nd.mk 3 noSt x y false) where
  cat := fun _ => ⟨hx, h0, h1⟩
  join := fun k hk q => by have q : (3 : Int) = k := q; omega
  not := fun q => absurd q (show ¬ (3 : Int) = 6 by decide)
  star := fun q => absurd q (show ¬ (3 : Int) = 7 by decide)
  bytes := fun q => absurd q (show ¬ (3 : Int) = 2 by decide)
theorem one_right' {ns : List Nd} {k x : Int} (hk : k = 6 ∨ k = 7) (hx : isIn ns x) : (Nd.mk k noSt x 0 false).right ns.length = true := by
  unfold isIn at hx
  unfold Nd.right aIn
  rw [if_neg (by dsimp only; omega), if_neg (by dsimp only; omega), if_neg (by dsimp only; omega), if_pos (by dsimp only; omega), Nd.eqb_self]
  dsimp only
  rw [decide_eq_true hx.1, decide_eq_true hx.2]; rfl

set_option maxRecDepth 100000 in
set_option maxHeartbeats 4000000 in
theorem nNot (S : ArenaMid AA) {w : World} {a : Value} {ns : List Nd} {F : Nat → Prop} (x : Int) (h : AA w a ns F) (hc : Canon ns) (hx : isIn ns x) (hroom : ns.length < 20000) : Calls Try.prog 15 #[a, .int .i64 x] w (Grows AA w a ns F fun more r => NotR (ns ++ more) x r ∧ more.length ≤ 1 ∧ (isIn ns r → more = [])) := by
  have hmx := S.max h
  have HA := Lib.hid h
  have HC := Lib.hid hc
  have HX := Lib.hid hx
  have hxI : I64 x := by unfold isIn at hx; unfold I64; omega
  have HN := Lib.hid (S.nodeIn x h hxI)
  have hdec : decide (0 ≤ x ∧ x < (ns.length : Int)) = true := decide_eq_true hx
  clear h hc hx
  go_enter Try.func15, Try.ntmps15
  go_wp2_with fail
  refine HN.out.mono ?_
  rintro e w1 ⟨y, rfl, hy, hb1⟩
  have hy := hy HX.out
  rw [hdec]
  have HB1 := Lib.hid hb1
  have HK : Hid (kd ns x = y.kind ∧ ka ns x = y.a) := Lib.hid ⟨by unfold kd; rw [← hy], by unfold ka; rw [← hy]⟩
  have hone := Nd.one y
  have HXb := Lib.hid (boxN_at w1 y)
  have HBb := Lib.hid (HB1.out.trans ((boxN_next w1 y).mono HB1.out.size))
  have ck := (Nd.cells HXb.out).1
  have c5 := (Nd.cells HXb.out).2.2.2.2.2.1
  clear hy hb1
  by_cases hk : y.kind = 6
  · have HG : Hid (Grows AA w a ns F (fun more r => NotR (ns ++ more) x r ∧ more.length ≤ 1 ∧ (isIn ns r → more = [])) (.returned (.int .i64 y.a)) (boxN w1 y)) := Lib.hid (by
      have k6 : kd ns x = 6 := by rw [HK.out.1, hk]
      have ia := (in_one HC.out.fine HX.out (Or.inl k6)).1
      rw [HK.out.2] at ia
      refine ⟨y.a, [], F, rfl, by rw [List.append_nil]; exact S.next HA.out HBb.out, fun b q => Or.inl q, OffF.of HBb.out, by rw [List.append_nil]; exact HC.out, by rw [List.append_nil]; exact ia, ?_, by simp, fun _ => rfl⟩
      rw [List.append_nil]
      exact ⟨ia, fun _ => HK.out.2.symm, fun q => absurd k6 q⟩)
    rw [hk] at ck
    clear hk
    go_wp2_with (first
      | (with_reducible show wpList _ _ _ ({ dst := none, op := .store _ _ _, type := _, pos := _, after := _, guard := _ } :: _) _ _
         refine wpList_store_row rfl 56 _ _ rfl w1.heap.size y.cs.toArray rfl rfl 56 Nd.zero.cs.toArray (At.new _ _ _) (by kernel_rfl) rfl hone ?_
         first | change wpList _ _ _ _ _ (boxN w1 y) | change Exit.then _ _ _ _ (boxN w1 y))
      | fail)
    go_ret
    exact HG.out
  · have HP := Lib.hid (nPut S ⟨6, noSt, x, 0, false⟩ (S.next HA.out HBb.out) HC.out (fit_small _ _ _ _ (by unfold I64; omega) hxI (by unfold I64; omega)) (one_right' (Or.inl rfl) HX.out) (fits_not (by rw [HK.out.1]; exact hk)) (by omega))
    have hkb := (int_ne hk).1
    have HKn := Lib.hid hk
    clear hk
    go_wp2_with (first
      | (with_reducible show wpList _ _ _ ({ dst := none, op := .store _ _ _, type := _, pos := _, after := _, guard := _ } :: _) _ _
         refine wpList_store_row rfl 56 _ _ rfl w1.heap.size y.cs.toArray rfl rfl 56 Nd.zero.cs.toArray (At.new _ _ _) (by kernel_rfl) rfl hone ?_
         first | change wpList _ _ _ _ _ (boxN w1 y) | change Exit.then _ _ _ _ (boxN w1 y))
      | fail)
    refine HP.out.mono ?_
    rintro e w2 g
    obtain ⟨r, _, _, rfl, _⟩ := id g
    have HG : Hid (Grows AA w a ns F (fun more r => NotR (ns ++ more) x r ∧ more.length ≤ 1 ∧ (isIn ns r → more = [])) (.returned (.int .i64 r)) w2) := Lib.hid (by
      obtain ⟨r', more, F', g0, g1, g2, g3, g4, g5, g6⟩ := g.from HBb.out
      refine ⟨r', more, F', g0, g1, g2, g3, g4, g5, ⟨g5, fun q => ?_, fun q => ⟨?_, ?_⟩⟩, g6.2⟩
      · rw [kd_up HX.out, HK.out.1] at q; exact absurd q HKn.out
      · unfold kd; rw [g6.1]
      · unfold ka; rw [g6.1])
    clear g
    go_wp2_with fail
    go_ret
    exact HG.out
end

end Go.Proofs.Ytcghclikkeajfaa
