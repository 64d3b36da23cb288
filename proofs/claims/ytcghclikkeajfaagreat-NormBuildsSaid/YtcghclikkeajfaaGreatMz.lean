/- Joined: NormEasy, NormEasy2. -/
import Derived.Test.YtcghclikkeajfaaGreatMe
import Derived.Test.YtcghclikkeajfaaGreatMf
import Derived.Test.YtcghclikkeajfaaGreatMh
import Derived.Test.YtcghclikkeajfaaGreatMv
import Derived.Test.YtcghclikkeajfaaGreatMg
import Derived.Test.YtcghclikkeajfaaGreatMD
/- The easy ones of norm: put, None, Empty, Look, Not. -/
namespace Go.Proofs.YtcghclikkeajfaaGreat
open Go.RowKit
set_option linter.unusedSimpArgs false
set_option linter.unusedVariables false

section
variable {AA : World → Value → List Nd → (Nat → Prop) → Prop}
theorem Grows.mono {w : World} {a : Value} {ns : List Nd} {F : Nat → Prop} {R R' : List Nd → Int → Prop} {e : Ending} {w' : World} (g : Grows AA w a ns F R e w') (h : ∀ more r, R more r → R' more r) : Grows AA w a ns F R' e w' := by
  obtain ⟨r, more, F', g0, g1, g2, g3, g4, g5, g6⟩ := g
  exact ⟨r, more, F', g0, g1, g2, g3, g4, g5, h more r g6⟩
/-- From a later world on. -/
theorem Grows.from {w w1 w' : World} {a : Value} {ns : List Nd} {F : Nat → Prop} {R : List Nd → Int → Prop} {e : Ending} (g : Grows AA w1 a ns F R e w') (hb : Below w.heap.size w w1) : Grows AA w a ns F R e w' := by
  obtain ⟨r, more, F', g0, g1, g2, g3, g4, g5, g6⟩ := g
  refine ⟨r, more, F', g0, g1, fun b q => ?_, (OffF.of hb).off g3 (fun b q => Or.inl q), g4, g5, g6⟩
  rcases g2 b q with q | q
  · exact Or.inl q
  · exact Or.inr (Nat.le_trans hb.size q)
theorem fit_small (k a b : Int) (neg : Bool) (hk : I64 k) (ha : I64 a) (hb : I64 b) : NdFit (Nd.mk k noSt a b neg) := ⟨hk, ⟨by unfold U64; exact Nat.zero_lt_succ _, by unfold U64; exact Nat.zero_lt_succ _, by unfold U64; exact Nat.zero_lt_succ _, by unfold U64; exact Nat.zero_lt_succ _⟩, ha, hb⟩
def PutR (ns : List Nd) (x : Nd) (more : List Nd) (r : Int) : Prop := ndAt (ns ++ more) r.toNat = x ∧ more.length ≤ 1 ∧ (isIn ns r → more = [])

/-- The number of what is put, or -1. -/
def putR (ns : List Nd) (x : Nd) : Int := if x.right ns.length then putId ns x else -1
set_option maxRecDepth 100000 in
set_option maxHeartbeats 4000000 in
theorem nPutRaw (S : ArenaMid AA) {w : World} {a : Value} {ns : List Nd} {F : Nat → Prop} (x : Nd) (h : AA w a ns F) (hx : NdFit x) (hroom : ns.length < 20000) :
    Calls Tryz.prog 39 #[a, .agg x.cs.toArray] w fun e w' => ∃ F', e = .returned (.int .i64 (putR ns x)) ∧ AA w' a (putS ns x) F' ∧ (∀ b, F' b → F b ∨ w.heap.size ≤ b) ∧ OffF F w w' := by
  have HB : Hid (Below w.heap.size w (w.alloc (.cells x.cs.toArray 65))) := Lib.hid ((Below.refl _ _).alloc (Nat.le_refl _) _)
  obtain ⟨c0, c1, c2, c3, c4, c5, c6, c7⟩ := Nd.cells (At.new w 65 x.cs.toArray)
  have HP : Hid (Calls Tryz.prog 61 #[a, .agg #[.int .i64 x.kind, .int .u64 x.set.w0, .int .u64 x.set.w1, .int .u64 x.set.w2, .int .u64 x.set.w3, .int .i64 x.a, .int .i64 x.b, .bool x.neg]] (w.alloc (.cells x.cs.toArray 65)) fun e w' => ∃ F', e = .returned (.tuple #[.int .i64 (putId ns x), .int .i64 (putE ns x)]) ∧ AA w' a (putS ns x) F' ∧ (∀ b, F' b → F b ∨ (w.alloc (.cells x.cs.toArray 65)).heap.size ≤ b) ∧ OffF F (w.alloc (.cells x.cs.toArray 65)) w') := Lib.hid (S.put x (S.next h HB.out) hx hroom)
  have HG : Hid (∀ w1 F', AA w1 a (putS ns x) F' → (∀ b, F' b → F b ∨ (w.alloc (.cells x.cs.toArray 65)).heap.size ≤ b) → OffF F (w.alloc (.cells x.cs.toArray 65)) w1 → ∃ F', AA w1 a (putS ns x) F' ∧ (∀ b, F' b → F b ∨ w.heap.size ≤ b) ∧ OffF F w w1) := Lib.hid (fun w1 F' h1 h2 h3 => ⟨F', h1, fun b q => by
    rcases h2 b q with q | q
    · exact Or.inl q
    · exact Or.inr (Nat.le_trans HB.out.size q), (OffF.of HB.out).off h3 (fun b q => Or.inl q)⟩)
  clear h hx
  cases hr : x.right ns.length
  · have HE : Hid (putE ns x = 1) := Lib.hid (by unfold putE; rw [if_neg (by rw [hr]; simp)])
    have HR : Hid (putR ns x = -1) := Lib.hid (by unfold putR; rw [if_neg (by rw [hr]; simp)])
    clear hr
    go_enter Tryz.func39, Tryz.ntmps39
    go_wp2_with fail
    refine HP.out.mono ?_
    rintro e w1 ⟨F', rfl, hA1, hF1, ho1⟩
    rw [HE.out]
    have HH := Lib.hid (HG.out w1 F' hA1 hF1 ho1)
    clear hA1 hF1 ho1
    go_wp2_with fail
    go_ret
    obtain ⟨F2, q1, q2, q3⟩ := HH.out
    exact ⟨F2, by rw [HR.out]; rfl, q1, q2, q3⟩
  · have HE : Hid (putE ns x = 0) := Lib.hid (by unfold putE; rw [if_pos hr])
    have HR : Hid (putR ns x = putId ns x) := Lib.hid (by unfold putR; rw [if_pos hr])
    clear hr
    go_enter Tryz.func39, Tryz.ntmps39
    go_wp2_with fail
    refine HP.out.mono ?_
    rintro e w1 ⟨F', rfl, hA1, hF1, ho1⟩
    rw [HE.out]
    have HH := Lib.hid (HG.out w1 F' hA1 hF1 ho1)
    clear hA1 hF1 ho1
    go_wp2_with fail
    go_ret
    obtain ⟨F2, q1, q2, q3⟩ := HH.out
    exact ⟨F2, by rw [HR.out]; rfl, q1, q2, q3⟩
set_option maxRecDepth 100000 in
set_option maxHeartbeats 4000000 in
theorem nPutNo (S : ArenaMid AA) {w : World} {a : Value} {ns : List Nd} {F : Nat → Prop} (x : Nd) (h : AA w a ns F) (hx : NdFit x) (hr : x.right ns.length = false) :
    Calls Tryz.prog 39 #[a, .agg x.cs.toArray] w fun e w' => e = .returned (.int .i64 (-1)) ∧ Below w.heap.size w w' := by
  have HB : Hid (Below w.heap.size w (w.alloc (.cells x.cs.toArray 65))) := Lib.hid ((Below.refl _ _).alloc (Nat.le_refl _) _)
  obtain ⟨c0, c1, c2, c3, c4, c5, c6, c7⟩ := Nd.cells (At.new w 65 x.cs.toArray)
  have HP : Hid (Calls Tryz.prog 61 #[a, .agg #[.int .i64 x.kind, .int .u64 x.set.w0, .int .u64 x.set.w1, .int .u64 x.set.w2, .int .u64 x.set.w3, .int .i64 x.a, .int .i64 x.b, .bool x.neg]] (w.alloc (.cells x.cs.toArray 65)) fun e w' => e = .returned (.tuple #[.int .i64 0, .int .i64 1]) ∧ Below (w.alloc (.cells x.cs.toArray 65)).heap.size (w.alloc (.cells x.cs.toArray 65)) w') := Lib.hid (S.putNo x (S.next h HB.out) hx hr)
  clear h hx hr
  go_enter Tryz.func39, Tryz.ntmps39
  go_wp2_with fail
  refine HP.out.mono ?_
  rintro e w1 ⟨rfl, hb⟩
  have HB1 := Lib.hid (HB.out.trans (hb.mono HB.out.size))
  clear hb
  go_wp2_with fail
  go_ret
  exact ⟨rfl, HB1.out⟩
theorem nPut (S : ArenaMid AA) {w : World} {a : Value} {ns : List Nd} {F : Nat → Prop} (x : Nd) (h : AA w a ns F) (hc : Canon ns) (hx : NdFit x) (hr : x.right ns.length = true) (hl : Fits ns x) (hroom : ns.length < 20000) :
    Calls Tryz.prog 39 #[a, .agg x.cs.toArray] w (Grows AA w a ns F (PutR ns x)) := by
  refine (nPutRaw S x h hx hroom).mono ?_
  rintro e w1 ⟨F', rfl, hA1, hF1, ho1⟩
  obtain ⟨k1, k2, k3, ⟨more, km, kl⟩, k5⟩ := canon_put hc hr hx hl
  rw [km] at hA1 k1 k2 k3
  refine ⟨_, more, F', by unfold putR; rw [if_pos hr], hA1, hF1, ho1, k1, k2, k3, kl, fun q => ?_⟩
  have := k5 q
  rw [km] at this
  exact List.append_right_eq_self.1 this
theorem fits_bare {ns : List Nd} {k : Int} {neg : Bool} {a b : Int} {s : St} (h2 : k ≠ 2) (h3 : k ≠ 3) (h4 : k ≠ 4) (h5 : k ≠ 5) (h6 : k ≠ 6) (h7 : k ≠ 7) : Fits ns ⟨k, s, a, b, neg⟩ :=
  ⟨fun q => absurd q h3, fun k' hk' q => by dsimp only at q; omega, fun q => absurd q h6, fun q => absurd q h7, fun q => absurd q h2⟩

set_option maxRecDepth 100000 in
theorem nNone (S : ArenaMid AA) {w : World} {a : Value} {ns : List Nd} {F : Nat → Prop} (h : AA w a ns F) (hc : Canon ns) (hroom : ns.length + 4 ≤ 20000) : Calls Tryz.prog 47 #[a] w (Grows AA w a ns F fun more r => kd (ns ++ more) r = 0 ∧ more.length ≤ 1 ∧ (isIn ns r → more = [])) := by
  have HP := Lib.hid (nPut S ⟨0, noSt, 0, 0, false⟩ h hc (fit_small _ _ _ _ (by unfold I64; omega) (by unfold I64; omega) (by unfold I64; omega)) (by unfold Nd.right; rw [if_pos (Or.inl rfl)]; exact Nd.eqb_self _) (fits_bare (by decide) (by decide) (by decide) (by decide) (by decide) (by decide)) (by omega))
  clear h hc
  go_enter Tryz.func47, Tryz.ntmps47
  go_wp2_with fail
  refine HP.out.mono ?_
  rintro e w1 g
  obtain ⟨r, _, _, rfl, _⟩ := id g
  have HG := Lib.hid (g.mono (R' := fun more r => kd (ns ++ more) r = 0 ∧ more.length ≤ 1 ∧ (isIn ns r → more = [])) (fun more r q => ⟨by unfold kd; rw [q.1], q.2⟩))
  clear g
  go_wp2_with fail
  go_ret
  exact HG.out

set_option maxRecDepth 100000 in
theorem nEmpty (S : ArenaMid AA) {w : World} {a : Value} {ns : List Nd} {F : Nat → Prop} (h : AA w a ns F) (hc : Canon ns) (hroom : ns.length + 4 ≤ 20000) : Calls Tryz.prog 16 #[a] w (Grows AA w a ns F fun more r => kd (ns ++ more) r = 1 ∧ more.length ≤ 1 ∧ (isIn ns r → more = [])) := by
  have HP := Lib.hid (nPut S ⟨1, noSt, 0, 0, false⟩ h hc (fit_small _ _ _ _ (by unfold I64; omega) (by unfold I64; omega) (by unfold I64; omega)) (by unfold Nd.right; rw [if_pos (Or.inr rfl)]; exact Nd.eqb_self _) (fits_bare (by decide) (by decide) (by decide) (by decide) (by decide) (by decide)) (by omega))
  clear h hc
  go_enter Tryz.func16, Tryz.ntmps16
  go_wp2_with fail
  refine HP.out.mono ?_
  rintro e w1 g
  obtain ⟨r, _, _, rfl, _⟩ := id g
  have HG := Lib.hid (g.mono (R' := fun more r => kd (ns ++ more) r = 1 ∧ more.length ≤ 1 ∧ (isIn ns r → more = [])) (fun more r q => ⟨by unfold kd; rw [q.1], q.2⟩))
  clear g
  go_wp2_with fail
  go_ret
  exact HG.out

set_option maxRecDepth 100000 in
theorem nLook (S : ArenaMid AA) {w : World} {a : Value} {ns : List Nd} {F : Nat → Prop} (k : Int) (neg : Bool) (h : AA w a ns F) (hc : Canon ns) (hk : 0 ≤ k ∧ k < 4) (hroom : ns.length + 4 ≤ 20000) : Calls Tryz.prog 80 #[a, .int .i64 k, .bool neg] w (Grows AA w a ns F fun more r => kd (ns ++ more) r = 8 ∧ more.length ≤ 3) := by
  have HP := Lib.hid (nPut S ⟨8, noSt, k, 0, neg⟩ h hc (fit_small _ _ _ _ (by unfold I64; omega) (by unfold I64; omega) (by unfold I64; omega)) (by unfold Nd.right aIn; rw [if_neg (by simp), if_neg (by simp), if_neg (by simp), if_neg (by simp), if_pos rfl, Nd.eqb_self]; dsimp only; rw [decide_eq_true hk.1, decide_eq_true hk.2]; rfl) (fits_bare (by decide) (by decide) (by decide) (by decide) (by decide) (by decide)) (by omega))
  clear h hc
  go_enter Tryz.func80, Tryz.ntmps80
  go_wp2_with fail
  refine HP.out.mono ?_
  rintro e w1 g
  obtain ⟨r, _, _, rfl, _⟩ := id g
  have HG := Lib.hid (g.mono (R' := fun more r => kd (ns ++ more) r = 8 ∧ more.length ≤ 3) (fun more r q => ⟨by unfold kd; rw [q.1], by have := q.2.1; omega⟩))
  clear g
  go_wp2_with fail
  go_ret
  exact HG.out

set_option maxRecDepth 100000 in
theorem nLookNo (S : ArenaMid AA) {w : World} {a : Value} {ns : List Nd} {F : Nat → Prop} (k : Int) (neg : Bool) (h : AA w a ns F) (hk : I64 k) (hn : ¬ (0 ≤ k ∧ k < 4)) : Calls Tryz.prog 80 #[a, .int .i64 k, .bool neg] w fun e w' => e = .returned (.int .i64 (-1)) ∧ AA w' a ns F ∧ OffF F w w' := by
  have hr : (Nd.mk 8 noSt k 0 neg).right ns.length = false := by
    unfold Nd.right aIn
    rw [if_neg (by simp), if_neg (by simp), if_neg (by simp), if_neg (by simp), if_pos rfl, Nd.eqb_self]
    dsimp only
    by_cases h0 : 0 ≤ k
    · rw [decide_eq_true h0, decide_eq_false (show ¬ k < 4 by omega)]; rfl
    · rw [decide_eq_false h0]; simp
  have HP := Lib.hid (nPutNo S ⟨8, noSt, k, 0, neg⟩ h (fit_small _ _ _ _ (by unfold I64; omega) hk (by unfold I64; omega)) hr)
  have HA := Lib.hid h
  clear h hn hr
  go_enter Tryz.func80, Tryz.ntmps80
  go_wp2_with fail
  refine HP.out.mono ?_
  rintro e w1 ⟨rfl, hb⟩
  have HB := Lib.hid hb
  clear hb
  go_wp2_with fail
  go_ret
  exact ⟨rfl, S.next HA.out HB.out, OffF.of HB.out⟩

theorem fits_not {ns : List Nd} {x : Int} (h : kd ns x ≠ 6) : Fits ns (Nd.mk 6 noSt x 0 false) where
  cat := fun q => absurd q (show ¬ (6 : Int) = 3 by decide)
  join := fun k hk q => by have q : (6 : Int) = k := q; omega
  not := fun _ => h
  star := fun q => absurd q (show ¬ (6 : Int) = 7 by decide)
  bytes := fun q => absurd q (show ¬ (6 : Int) = 2 by decide)
theorem fits_star {ns : List Nd} {x : Int} (h0 : kd ns x ≠ 0) (h1 : kd ns x ≠ 1) (h7 : kd ns x ≠ 7) : Fits ns (Nd.mk 7 noSt x 0 false) where
  cat := fun q => absurd q (show ¬ (7 : Int) = 3 by decide)
  join := fun k hk q => by have q : (7 : Int) = k := q; omega
  not := fun q => absurd q (show ¬ (7 : Int) = 6 by decide)
  star := fun _ => ⟨h0, h1, h7⟩
  bytes := fun q => absurd q (show ¬ (7 : Int) = 2 by decide)
theorem fits_bytes {ns : List Nd} {s : St} (h : ∃ b, b < 256 ∧ s.has b = true) : Fits ns (Nd.mk 2 s 0 0 false) where
  cat := fun q => absurd q (show ¬ (2 : Int) = 3 by decide)
  join := fun k hk q => by have q : (2 : Int) = k := q; omega
  not := fun q => absurd q (show ¬ (2 : Int) = 6 by decide)
  star := fun q => absurd q (show ¬ (2 : Int) = 7 by decide)
  bytes := fun _ => h
theorem fits_cat {ns : List Nd} {x y : Int} (hx : kd ns x ≠ 0 ∧ kd ns x ≠ 1 ∧ kd ns x ≠ 3) (h0 : kd ns y ≠ 0) (h1 : kd ns y ≠ 1) : Fits ns (Nd.mk 3 noSt x y false) where
  cat := fun _ => ⟨hx, h0, h1⟩
  join := fun k hk q => by have q : (3 : Int) = k := q; omega
  not := fun q => absurd q (show ¬ (3 : Int) = 6 by decide)
  star := fun q => absurd q (show ¬ (3 : Int) = 7 by decide)
  bytes := fun q => absurd q (show ¬ (3 : Int) = 2 by decide)
theorem one_right' {ns : List Nd} {k x : Int} (hk : k = 6 ∨ k = 7) (hx : isIn ns x) : (Nd.mk k noSt x 0 false).right ns.length = true := by
  unfold isIn at hx
  unfold Nd.right aIn
  rw [if_neg (by dsimp only; omega), if_neg (by dsimp only; omega), if_neg (by dsimp only; omega), if_pos (by dsimp only; omega), Nd.eqb_self]
  dsimp only
  rw [decide_eq_true hx.1, decide_eq_true hx.2]; rfl

set_option maxRecDepth 100000 in
set_option maxHeartbeats 4000000 in
theorem nNot (S : ArenaMid AA) {w : World} {a : Value} {ns : List Nd} {F : Nat → Prop} (x : Int) (h : AA w a ns F) (hc : Canon ns) (hx : isIn ns x) (hroom : ns.length < 20000) : Calls Tryz.prog 57 #[a, .int .i64 x] w (Grows AA w a ns F fun more r => NotR (ns ++ more) x r ∧ more.length ≤ 1 ∧ (isIn ns r → more = [])) := by
  have hmx := S.max h
  have HA := Lib.hid h
  have HC := Lib.hid hc
  have HX := Lib.hid hx
  have hxI : I64 x := by unfold isIn at hx; unfold I64; omega
  have HN := Lib.hid (S.nodeIn x h hxI)
  have hdec : decide (0 ≤ x ∧ x < (ns.length : Int)) = true := decide_eq_true hx
  clear h hc hx
  go_enter Tryz.func57, Tryz.ntmps57
  go_wp2_with fail
  refine HN.out.mono ?_
  rintro e w1 ⟨y, rfl, hy, hb1⟩
  have hy := hy HX.out
  rw [hdec]
  have HB1 := Lib.hid hb1
  have HK : Hid (kd ns x = y.kind ∧ ka ns x = y.a) := Lib.hid ⟨by unfold kd; rw [← hy], by unfold ka; rw [← hy]⟩
  have hone := Nd.one y
  have HXb := Lib.hid (boxN_at w1 y)
  have HBb := Lib.hid (HB1.out.trans ((boxN_next w1 y).mono HB1.out.size))
  have ck := (Nd.cells HXb.out).1
  have c5 := (Nd.cells HXb.out).2.2.2.2.2.1
  clear hy hb1
  by_cases hk : y.kind = 6
  · have HG : Hid (Grows AA w a ns F (fun more r => NotR (ns ++ more) x r ∧ more.length ≤ 1 ∧ (isIn ns r → more = [])) (.returned (.int .i64 y.a)) (boxN w1 y)) := Lib.hid (by
      have k6 : kd ns x = 6 := by rw [HK.out.1, hk]
      have ia := (in_one HC.out.fine HX.out (Or.inl k6)).1
      rw [HK.out.2] at ia
      refine ⟨y.a, [], F, rfl, by rw [List.append_nil]; exact S.next HA.out HBb.out, fun b q => Or.inl q, OffF.of HBb.out, by rw [List.append_nil]; exact HC.out, by rw [List.append_nil]; exact ia, ?_, by simp, fun _ => rfl⟩
      rw [List.append_nil]
      exact ⟨ia, fun _ => HK.out.2.symm, fun q => absurd k6 q⟩)
    rw [hk] at ck
    clear hk
    go_wp2_with (first
      | (with_reducible show wpList _ _ _ ({ dst := none, op := .store _ _ _, type := _, pos := _, after := _, guard := _ } :: _) _ _
         refine wpList_store_row rfl 65 _ _ rfl w1.heap.size y.cs.toArray rfl rfl 65 Nd.zero.cs.toArray (At.new _ _ _) (by kernel_rfl) rfl hone ?_
         first | change wpList _ _ _ _ _ (boxN w1 y) | change Exit.then _ _ _ _ (boxN w1 y))
      | fail)
    go_ret
    exact HG.out
  · have HP := Lib.hid (nPut S ⟨6, noSt, x, 0, false⟩ (S.next HA.out HBb.out) HC.out (fit_small _ _ _ _ (by unfold I64; omega) hxI (by unfold I64; omega)) (one_right' (Or.inl rfl) HX.out) (fits_not (by rw [HK.out.1]; exact hk)) (by omega))
    have hkb := (int_ne hk).1
    have HKn := Lib.hid hk
    clear hk
    go_wp2_with (first
      | (with_reducible show wpList _ _ _ ({ dst := none, op := .store _ _ _, type := _, pos := _, after := _, guard := _ } :: _) _ _
         refine wpList_store_row rfl 65 _ _ rfl w1.heap.size y.cs.toArray rfl rfl 65 Nd.zero.cs.toArray (At.new _ _ _) (by kernel_rfl) rfl hone ?_
         first | change wpList _ _ _ _ _ (boxN w1 y) | change Exit.then _ _ _ _ (boxN w1 y))
      | fail)
    refine HP.out.mono ?_
    rintro e w2 g
    obtain ⟨r, _, _, rfl, _⟩ := id g
    have HG : Hid (Grows AA w a ns F (fun more r => NotR (ns ++ more) x r ∧ more.length ≤ 1 ∧ (isIn ns r → more = [])) (.returned (.int .i64 r)) w2) := Lib.hid (by
      obtain ⟨r', more, F', g0, g1, g2, g3, g4, g5, g6⟩ := g.from HBb.out
      refine ⟨r', more, F', g0, g1, g2, g3, g4, g5, ⟨g5, fun q => ?_, fun q => ⟨?_, ?_⟩⟩, g6.2⟩
      · rw [kd_up HX.out, HK.out.1] at q; exact absurd q HKn.out
      · unfold kd; rw [g6.1]
      · unfold ka; rw [g6.1])
    clear g
    go_wp2_with fail
    go_ret
    exact HG.out
end

end Go.Proofs.YtcghclikkeajfaaGreat

/- All, there, kind, isAll, Star, Bytes of norm. -/
namespace Go.Proofs.YtcghclikkeajfaaGreat
open Go.RowKit
set_option linter.unusedSimpArgs false
set_option linter.unusedVariables false

section
variable {AA : World → Value → List Nd → (Nat → Prop) → Prop}
/-- One behind the other. -/
theorem Grows.seq {w w1 w2 : World} {a : Value} {ns more1 : List Nd} {F F1 : Nat → Prop} {R : List Nd → Int → Prop} {e : Ending} (g2 : ∀ b, F1 b → F b ∨ w.heap.size ≤ b) (g3 : OffF F w w1) (g : Grows AA w1 a (ns ++ more1) F1 R e w2) : Grows AA w a ns F (fun more r => ∃ m2, more = more1 ++ m2 ∧ R m2 r) e w2 := by
  obtain ⟨r, m2, F2, k0, k1, k2, k3, k4, k5, k6⟩ := g
  refine ⟨r, more1 ++ m2, F2, k0, by rw [← List.append_assoc]; exact k1, fun b q => ?_, g3.off k3 g2, by rw [← List.append_assoc]; exact k4, by rw [← List.append_assoc]; exact k5, m2, rfl, k6⟩
  rcases k2 b q with q | q
  · exact g2 b q
  · exact Or.inr (Nat.le_trans g3.size q)

set_option maxRecDepth 100000 in
set_option maxHeartbeats 4000000 in
theorem nAll (S : ArenaMid AA) {w : World} {a : Value} {ns : List Nd} {F : Nat → Prop} (h : AA w a ns F) (hc : Canon ns) (hroom : ns.length + 4 ≤ 20000) : Calls Tryz.prog 76 #[a] w (Grows AA w a ns F fun more r => isAl (ns ++ more) r = true ∧ more.length ≤ 2) := by
  have HP := Lib.hid (nNone S h hc hroom)
  clear h hc
  go_enter Tryz.func76, Tryz.ntmps76
  go_wp2_with fail
  refine HP.out.mono ?_
  rintro e w1 ⟨r1, more1, F1, rfl, g1, g2, g3, g4, g5, g6, g7, g8⟩
  have HQ := Lib.hid (nNot S r1 g1 g4 g5 (by rw [List.length_append]; omega))
  have H2 := Lib.hid g2
  have H3 := Lib.hid g3
  have H4 := Lib.hid g4
  have H5 := Lib.hid g5
  have H6 := Lib.hid g6
  have H7 := Lib.hid g7
  clear g1 g2 g3 g4 g5 g6 g7 g8
  go_wp2_with fail
  refine HQ.out.mono ?_
  rintro e w2 g
  obtain ⟨r, _, _, rfl, _⟩ := id g
  have HG := Lib.hid ((g.seq H2.out H3.out).mono (R' := fun more r => isAl (ns ++ more) r = true ∧ more.length ≤ 2) (by
    rintro more r ⟨m2, rfl, q1, q2, _⟩
    have hk : kd ((ns ++ more1) ++ m2) r1 = 0 := by rw [kd_up H5.out, H6.out]
    have hk1 : kd (ns ++ more1) r1 ≠ 6 := by rw [H6.out]; decide
    obtain ⟨k1, k2⟩ := q1.2.2 (by rw [kd_up H5.out]; exact hk1)
    refine ⟨?_, by rw [List.length_append]; have := H7.out; omega⟩
    rw [← List.append_assoc]
    unfold isAl
    rw [k1, k2, hk]; rfl))
  clear g
  go_wp2_with fail
  go_ret
  exact HG.out

theorem list_one (w : World) (x : Int) (t : TypeId) : ListAt (w.alloc (.cells #[.int .i64 x] t)) (.slice (some ⟨w.heap.size, 0, none⟩) 1 1) [x] :=
  ⟨_, _, rfl, fun _ => ⟨w.heap.size, 0, rfl, by simp, fun j hj => by
    have h := (At.new w t #[.int .i64 x]).cell (0 + j)
    rw [h]
    have hj : j < 1 := hj
    have : j = 0 := by omega
    subst this; rfl⟩⟩
theorem ListAt.next {w w' : World} {v : Value} {l : List Int} (h : ListAt w v l) (hb : Below w.heap.size w w') : ListAt w' v l := by
  obtain ⟨A, c, rfl, h⟩ := h
  refine ⟨A, c, rfl, fun hl => ?_⟩
  obtain ⟨b, off, rfl, hlt, hc⟩ := h hl
  exact ⟨b, off, rfl, Nat.lt_of_lt_of_le hlt hb.size, fun j hj => (hb.cell (p := ⟨b, off + j, none⟩) hlt).trans (hc j hj)⟩

set_option maxRecDepth 100000 in
set_option maxHeartbeats 4000000 in
theorem nThere (S : ArenaMid AA) {w : World} {a v : Value} {ns : List Nd} {F : Nat → Prop} (l : List Int) (h : AA w a ns F) (hv : ListAt w v l) (hl : l.length ≤ 20000) (hI : ∀ x ∈ l, isIn ns x) : Calls Tryz.prog 41 #[a, v] w fun e w' => e = .returned (.bool true) ∧ w' = w := by
  obtain ⟨A, c, rfl, hv⟩ := hv
  have HV := Lib.hid hv
  have HI := Lib.hid hI
  have hmx := S.max h
  have HA := Lib.hid h
  have HL := Lib.hid (S.len h)
  clear hv hI h
  go_enter Tryz.func41, Tryz.ntmps41
  go_wp2_with fail
  go_loopw [9] (fun i wr => ∃ j : Nat, j ≤ l.length ∧ i = .int .i64 j ∧ wr = w) (fun i _ => l.length - (intOf i).toNat)
  case atStart => exact ⟨0, Nat.zero_le _, rfl, rfl⟩
  case round =>
    obtain ⟨j, hj, rfl, rfl⟩ := hrel
    by_cases hjl : j < l.length
    · obtain ⟨b, off, rfl, hlt, hc⟩ := HV.out (by omega)
      have hjz : (0 : Int) ≤ (j : Int) := by omega
      have hjn : (j : Int) < (l.length : Int) := by omega
      have hin := HI.out l[j] (List.getElem_mem hjl)
      have c0 := hc j hjl
      obtain ⟨x, hx⟩ : ∃ x, l[j] = x := ⟨_, rfl⟩
      rw [hx] at hin c0
      unfold isIn at hin
      obtain ⟨hx0, hx1⟩ := hin
      have hxd0 : decide (x < 0) = false := decide_eq_false (by omega)
      have hxd1 : decide ((ns.length : Int) ≤ x) = false := decide_eq_false (by omega)
      have hxn0 : ¬ x < 0 := by omega
      have hxn1 : ¬ (ns.length : Int) ≤ x := by omega
      clear hc hx
      go_wp2_with fail
      refine HL.out.mono ?_
      rintro e w1 ⟨rfl, rfl⟩
      go_wp2_with fail
      refine ⟨⟨j + 1, by omega, by go_num, trivial⟩, by simp [intOf]; omega⟩
    · obtain rfl : j = l.length := by omega
      go_wp2_with fail
      go_ret
      exact ⟨rfl, rfl⟩

set_option maxRecDepth 100000 in
set_option maxHeartbeats 4000000 in
theorem nKind (S : ArenaMid AA) {w : World} {a : Value} {ns : List Nd} {F : Nat → Prop} (x : Int) (h : AA w a ns F) (hx : isIn ns x) : Calls Tryz.prog 64 #[a, .int .i64 x] w fun e w' => e = .returned (.int .i64 (kd ns x)) ∧ Below w.heap.size w w' := by
  have hmx := S.max h
  have HX := Lib.hid hx
  have hxI : I64 x := by unfold isIn at hx; unfold I64; omega
  have HN := Lib.hid (S.nodeIn x h hxI)
  clear h hx
  go_enter Tryz.func64, Tryz.ntmps64
  go_wp2_with fail
  refine HN.out.mono ?_
  rintro e w1 ⟨y, rfl, hy, hb1⟩
  have hy := hy HX.out
  have HB1 := Lib.hid hb1
  have HK : Hid (kd ns x = y.kind) := Lib.hid (by unfold kd; rw [← hy])
  have hone := Nd.one y
  have HXb := Lib.hid (boxN_at w1 y)
  have HBb := Lib.hid (HB1.out.trans ((boxN_next w1 y).mono HB1.out.size))
  have ck := (Nd.cells HXb.out).1
  clear hy hb1
  go_wp2_with (first
    | (with_reducible show wpList _ _ _ ({ dst := none, op := .store _ _ _, type := _, pos := _, after := _, guard := _ } :: _) _ _
       refine wpList_store_row rfl 65 _ _ rfl w1.heap.size y.cs.toArray rfl rfl 65 Nd.zero.cs.toArray (At.new _ _ _) (by kernel_rfl) rfl hone ?_
       first | change wpList _ _ _ _ _ (boxN w1 y) | change Exit.then _ _ _ _ (boxN w1 y))
    | fail)
  go_ret
  exact ⟨by rw [HK.out]; rfl, HBb.out⟩

set_option maxRecDepth 100000 in
set_option maxHeartbeats 4000000 in
theorem nIsAll (S : ArenaMid AA) {w : World} {a : Value} {ns : List Nd} {F : Nat → Prop} (x : Int) (y : Nd) (h : AA w a ns F) (hx : isIn ns x) (hy : y = ndAt ns x.toNat) : Calls Tryz.prog 43 #[a, .agg y.cs.toArray] w fun e w' => e = .returned (.bool (isAl ns x)) ∧ Below w.heap.size w w' := by
  have HX := Lib.hid hx
  have HF := Lib.hid (S.fine h)
  have HB : Hid (Below w.heap.size w (w.alloc (.cells y.cs.toArray 65))) := Lib.hid ((Below.refl _ _).alloc (Nat.le_refl _) _)
  have HA := Lib.hid (S.next h HB.out)
  have HK : Hid (kd ns x = y.kind ∧ ka ns x = y.a) := Lib.hid ⟨by unfold kd; rw [hy], by unfold ka; rw [hy]⟩
  obtain ⟨c0, c1, c2, c3, c4, c5, c6, c7⟩ := Nd.cells (At.new w 65 y.cs.toArray)
  clear h hx hy
  by_cases hk : y.kind = 6
  · have HC := Lib.hid (nKind S y.a HA.out (by have := (in_one HF.out HX.out (Or.inl (by rw [HK.out.1, hk]))).1; rwa [HK.out.2] at this))
    have HE : Hid (isAl ns x = decide (kd ns y.a = 0)) := Lib.hid (by unfold isAl; rw [HK.out.1, HK.out.2, decide_eq_true hk, Bool.true_and])
    rw [hk] at c0
    clear hk
    go_enter Tryz.func43, Tryz.ntmps43
    go_wp2_with fail
    refine HC.out.mono ?_
    rintro e w1 ⟨rfl, hb⟩
    have HB1 := Lib.hid (HB.out.trans (hb.mono HB.out.size))
    clear hb
    go_wp2_with fail
    go_ret
    exact ⟨by rw [HE.out]; rfl, HB1.out⟩
  · have HE : Hid (isAl ns x = false) := Lib.hid (by unfold isAl; rw [HK.out.1, decide_eq_false hk, Bool.false_and])
    have hkb := (int_ne hk).1
    clear hk
    go_enter Tryz.func43, Tryz.ntmps43
    go_wp2_with fail
    go_ret
    exact ⟨by rw [HE.out]; rfl, HB.out⟩

set_option maxRecDepth 100000 in
set_option maxHeartbeats 4000000 in
theorem nStar (S : ArenaMid AA) {w : World} {a : Value} {ns : List Nd} {F : Nat → Prop} (x : Int) (h : AA w a ns F) (hc : Canon ns) (hx : isIn ns x) (hroom : ns.length + 4 ≤ 20000) : Calls Tryz.prog 78 #[a, .int .i64 x] w (Grows AA w a ns F fun more r => StarR (ns ++ more) x r ∧ more.length ≤ 1) := by
  have hxI : I64 x := by unfold isIn at hx; unfold I64; omega
  have HX := Lib.hid hx
  have HC := Lib.hid hc
  have HB : Hid (Below w.heap.size w (w.alloc (.cells #[.int .i64 x] 3))) := Lib.hid ((Below.refl _ _).alloc (Nat.le_refl _) _)
  have HA := Lib.hid (S.next h HB.out)
  have HT : Hid (Calls Tryz.prog 41 #[a, .slice (some ⟨w.heap.size, 0, none⟩) 1 1] (w.alloc (.cells #[.int .i64 x] 3)) fun e w' => e = .returned (.bool true) ∧ w' = w.alloc (.cells #[.int .i64 x] 3)) := Lib.hid (nThere S [x] HA.out (list_one _ _ _) (by simp) (fun y hy => by rw [List.mem_singleton.1 hy]; exact hx))
  have HK := Lib.hid (nKind S x HA.out hx)
  clear h hc hx
  go_enter Tryz.func78, Tryz.ntmps78
  go_wp2_with fail
  refine HT.out.mono ?_
  rintro e w1 ⟨rfl, rfl⟩
  go_wp2_with fail
  refine HK.out.mono ?_
  rintro e w1 ⟨rfl, hb1⟩
  have HB1 := Lib.hid (HB.out.trans (hb1.mono HB.out.size))
  have HA1 := Lib.hid (S.next HA.out hb1)
  clear hb1
  obtain ⟨k, hkd⟩ : ∃ k, k = kd ns x := ⟨_, rfl⟩
  rw [← hkd]
  have HKd := Lib.hid hkd
  clear hkd
  by_cases hk : k = 0 ∨ k = 1
  · have HP := Lib.hid (nEmpty S HA1.out HC.out hroom)
    have HK01 := Lib.hid hk
    have hg : ∀ {e : Ending} {w2 : World}, Grows AA w1 a ns F (fun more r => kd (ns ++ more) r = 1 ∧ more.length ≤ 1 ∧ (isIn ns r → more = [])) e w2 → Grows AA w a ns F (fun more r => StarR (ns ++ more) x r ∧ more.length ≤ 1) e w2 := fun g => by
      obtain ⟨r', more, F', g0, g1, g2, g3, g4, g5, g6⟩ := g.from HB1.out
      refine ⟨r', more, F', g0, g1, g2, g3, g4, g5, ⟨g5, fun _ => g6.1, fun q => ?_, fun q0 q1 _ => ?_⟩, g6.2.1⟩
      · rw [kd_up HX.out, ← HKd.out] at q; have := HK01.out; omega
      · rw [kd_up HX.out, ← HKd.out] at q0 q1; have := HK01.out; omega
    have HGg : Hid (∀ {e : Ending} {w2 : World}, Grows AA w1 a ns F (fun more r => kd (ns ++ more) r = 1 ∧ more.length ≤ 1 ∧ (isIn ns r → more = [])) e w2 → Grows AA w a ns F (fun more r => StarR (ns ++ more) x r ∧ more.length ≤ 1) e w2) := Lib.hid hg
    clear hg
    rcases hk with rfl | rfl
    · go_wp2_with fail
      refine HP.out.mono ?_
      rintro e w2 g
      obtain ⟨r, _, _, rfl, _⟩ := id g
      have HG := Lib.hid (HGg.out g)
      clear g
      go_wp2_with fail
      go_ret
      exact HG.out
    · go_wp2_with fail
      refine HP.out.mono ?_
      rintro e w2 g
      obtain ⟨r, _, _, rfl, _⟩ := id g
      have HG := Lib.hid (HGg.out g)
      clear g
      go_wp2_with fail
      go_ret
      exact HG.out
  · have hk0 : k ≠ 0 := fun q => hk (Or.inl q)
    have hk1 : k ≠ 1 := fun q => hk (Or.inr q)
    have hb0 := (int_ne hk0).1
    have hb1 := (int_ne hk1).1
    have HK0 : Hid (kd ns x ≠ 0) := Lib.hid (by rw [← HKd.out]; exact hk0)
    have HK1 : Hid (kd ns x ≠ 1) := Lib.hid (by rw [← HKd.out]; exact hk1)
    clear hk hk0 hk1
    by_cases hk7 : k = 7
    · have HK7 : Hid (kd ns x = 7) := Lib.hid (by rw [← HKd.out]; exact hk7)
      subst hk7
      clear hb0 hb1
      go_wp2_with fail
      go_ret
      refine ⟨x, [], F, rfl, by rw [List.append_nil]; exact HA1.out, fun b q => Or.inl q, OffF.of HB1.out, by rw [List.append_nil]; exact HC.out, by rw [List.append_nil]; exact HX.out, ?_, by simp⟩
      rw [List.append_nil]
      exact ⟨HX.out, fun q => by have := HK0.out; have := HK1.out; omega, fun _ => rfl, fun _ _ q => absurd HK7.out q⟩
    · have hb7 := (int_ne hk7).1
      have HK7 : Hid (kd ns x ≠ 7) := Lib.hid (by rw [← HKd.out]; exact hk7)
      have HP := Lib.hid (nPut S ⟨7, noSt, x, 0, false⟩ HA1.out HC.out (fit_small _ _ _ _ (by unfold I64; omega) hxI (by unfold I64; omega)) (one_right' (Or.inr rfl) HX.out) (fits_star HK0.out HK1.out HK7.out) (by omega))
      clear hk7
      go_wp2_with fail
      refine HP.out.mono ?_
      rintro e w2 g
      obtain ⟨r, _, _, rfl, _⟩ := id g
      have HG : Hid (Grows AA w a ns F (fun more r => StarR (ns ++ more) x r ∧ more.length ≤ 1) (.returned (.int .i64 r)) w2) := Lib.hid (by
        obtain ⟨r', more, F', g0, g1, g2, g3, g4, g5, g6⟩ := g.from HB1.out
        refine ⟨r', more, F', g0, g1, g2, g3, g4, g5, ⟨g5, fun q => ?_, fun q => ?_, fun _ _ _ => ⟨?_, ?_⟩⟩, g6.2.1⟩
        · rw [kd_up HX.out] at q; have := HK0.out; have := HK1.out; omega
        · rw [kd_up HX.out] at q; exact absurd q HK7.out
        · unfold kd; rw [g6.1]
        · unfold ka; rw [g6.1])
      clear g
      go_wp2_with fail
      go_ret
      exact HG.out

theorem list_none {s : St} : s.list.length = 0 ↔ ∀ b, b < 256 → s.has b = false := by
  have : s.list.length = 0 ↔ ∀ b : Nat, b ∉ s.list := by
    rw [List.length_eq_zero_iff]
    exact List.eq_nil_iff_forall_not_mem
  rw [this]
  constructor
  · intro h b hb
    cases e : s.has b with
    | false => rfl
    | true => exact absurd ((List.mem_filter.2 ⟨List.mem_range.2 hb, e⟩)) (h b)
  · intro h b hb
    obtain ⟨q1, q2⟩ := List.mem_filter.1 hb
    rw [h b (List.mem_range.1 q1)] at q2; cases q2

set_option maxRecDepth 100000 in
set_option maxHeartbeats 4000000 in
theorem nBytes (S : ArenaMid AA) {w : World} {a : Value} {ns : List Nd} {F : Nat → Prop} (s : St) (h : AA w a ns F) (hc : Canon ns) (hs : s.Ok) (hroom : ns.length + 4 ≤ 20000) : Calls Tryz.prog 46 #[a, .agg #[.int .u64 s.w0, .int .u64 s.w1, .int .u64 s.w2, .int .u64 s.w3]] w (Grows AA w a ns F fun more r => ((s.list.length = 0 ∧ kd (ns ++ more) r = 0) ∨ (s.list.length ≠ 0 ∧ ndAt (ns ++ more) r.toNat = ⟨2, s, 0, 0, false⟩)) ∧ more.length ≤ 1 ∧ (isIn ns r → more = [])) := by
  have HB : Hid (Below w.heap.size w (w.alloc (.cells #[.int .u64 s.w0, .int .u64 s.w1, .int .u64 s.w2, .int .u64 s.w3] 24))) := Lib.hid ((Below.refl _ _).alloc (Nat.le_refl _) _)
  have HA := Lib.hid (S.next h HB.out)
  have HC := Lib.hid hc
  have HS := Lib.hid hs
  have HCt := Lib.hid (setCount s hs (w.alloc (.cells #[.int .u64 s.w0, .int .u64 s.w1, .int .u64 s.w2, .int .u64 s.w3] 24)))
  clear h hc hs
  go_enter Tryz.func46, Tryz.ntmps46
  go_wp2_with fail
  refine HCt.out.mono ?_
  rintro e w1 ⟨rfl, hb1⟩
  have HB1 := Lib.hid (HB.out.trans (hb1.mono HB.out.size))
  have HA1 := Lib.hid (S.next HA.out hb1)
  have hcell := fun (i : Nat) => ((bcell hb1).1 w.heap.size i (by simp)).trans ((At.new w 24 #[.int .u64 s.w0, .int .u64 s.w1, .int .u64 s.w2, .int .u64 s.w3]).cell i)
  have c0 : w1.cell? ⟨w.heap.size, 0, none⟩ = some (.int .u64 s.w0) := hcell 0
  have c1 : w1.cell? ⟨w.heap.size, 1, none⟩ = some (.int .u64 s.w1) := hcell 1
  have c2 : w1.cell? ⟨w.heap.size, 2, none⟩ = some (.int .u64 s.w2) := hcell 2
  have c3 : w1.cell? ⟨w.heap.size, 3, none⟩ = some (.int .u64 s.w3) := hcell 3
  clear hb1 hcell
  obtain ⟨n, hn⟩ : ∃ n, n = s.list.length := ⟨_, rfl⟩
  rw [← hn]
  have HN := Lib.hid hn
  clear hn
  by_cases h0 : n = 0
  · have HP := Lib.hid (nNone S HA1.out HC.out hroom)
    have HN0 := Lib.hid h0
    subst h0
    go_wp2_with fail
    refine HP.out.mono ?_
    rintro e w2 g
    obtain ⟨r, _, _, rfl, _⟩ := id g
    have HG := Lib.hid ((g.from HB1.out).mono (R' := fun more r => ((s.list.length = 0 ∧ kd (ns ++ more) r = 0) ∨ (s.list.length ≠ 0 ∧ ndAt (ns ++ more) r.toNat = ⟨2, s, 0, 0, false⟩)) ∧ more.length ≤ 1 ∧ (isIn ns r → more = [])) (fun more r q => ⟨Or.inl ⟨HN.out.symm, q.1⟩, q.2⟩))
    clear g
    go_wp2_with fail
    go_ret
    exact HG.out
  · have hne : ¬ ((n : Int) = 0) := by omega
    have hnb := (int_ne hne).1
    have hnb' : (((n : Nat) : Int) == 0) = false := hnb
    have HNe : Hid (s.list.length ≠ 0) := Lib.hid (by rw [← HN.out]; exact h0)
    have hex : ∃ b, b < 256 ∧ s.has b = true := Classical.byContradiction fun q => HNe.out (list_none.2 (fun b hb => by
      cases e : s.has b with
      | false => rfl
      | true => exact absurd ⟨b, hb, e⟩ q))
    have HP := Lib.hid (nPut S ⟨2, s, 0, 0, false⟩ HA1.out HC.out ⟨by unfold I64; dsimp only; omega, HS.out, by unfold I64; dsimp only; omega, by unfold I64; dsimp only; omega⟩ (by unfold Nd.right; rw [if_neg (by simp), if_pos rfl]; exact Nd.eqb_self _) (fits_bytes hex) (by omega))
    clear h0 hne hex
    go_wp2_with fail
    refine HP.out.mono ?_
    rintro e w2 g
    obtain ⟨r, _, _, rfl, _⟩ := id g
    have HG := Lib.hid ((g.from HB1.out).mono (R' := fun more r => ((s.list.length = 0 ∧ kd (ns ++ more) r = 0) ∨ (s.list.length ≠ 0 ∧ ndAt (ns ++ more) r.toNat = ⟨2, s, 0, 0, false⟩)) ∧ more.length ≤ 1 ∧ (isIn ns r → more = [])) (fun more r q => ⟨Or.inr ⟨HNe.out, q.1⟩, q.2⟩))
    clear g
    go_wp2_with fail
    go_ret
    exact HG.out
end

end Go.Proofs.YtcghclikkeajfaaGreat
