/- Joined: NormCatM, GnCatM. -/
import Derived.Test.YthifbaacmohmnaaGreatMaw
import Derived.Test.YthifbaacmohmnaaGreatMax
import Derived.Test.YthifbaacmohmnaaGreatMah
import Derived.Test.YthifbaacmohmnaaGreatMam
/- What putting one behind the other is: mathematics. -/
namespace Go.Proofs.YthifbaacmohmnaaGreat
open Go.RowKit
set_option linter.unusedSimpArgs false
set_option linter.unusedVariables false

section
variable {AA : World → Value → List Nd → (Nat → Prop) → Prop}
theorem Grows.stay {w w' : World} {a : Value} {ns : List Nd} {F : Nat → Prop} {R : List Nd → Int → Prop} {r : Int} (S : ArenaMid AA) (h : AA w a ns F) (hc : Canon ns) (hb : Below w.heap.size w w') (hr : isIn ns r) (hR : R [] r) : Grows AA w a ns F R (.returned (.int .i64 r)) w' :=
  ⟨r, [], F, rfl, by rw [List.append_nil]; exact S.next h hb, fun b q => Or.inl q, OffF.of hb, by rw [List.append_nil]; exact hc, by rw [List.append_nil]; exact hr, hR⟩
theorem two_right' {ns : List Nd} {k x y : Int} (hk : k = 3 ∨ k = 4 ∨ k = 5) (hx : isIn ns x) (hy : isIn ns y) : (Nd.mk k noSt x y false).right ns.length = true := by
  unfold isIn at hx hy
  unfold Nd.right aIn
  rw [if_neg (by dsimp only; omega), if_neg (by dsimp only; omega), if_pos (by dsimp only; omega), Nd.eqb_self]
  dsimp only
  rw [decide_eq_true hx.1, decide_eq_true hx.2, decide_eq_true hy.1, decide_eq_true hy.2]; rfl
end

end Go.Proofs.YthifbaacmohmnaaGreat

/- The chain of norm.Cat, and what is put together, of any nodes of an arena that may get full. -/
namespace Go.Proofs.YthifbaacmohmnaaGreat
open Go.RowKit
set_option linter.unusedSimpArgs false
set_option linter.unusedVariables false
set_option linter.unusedSectionVars false

/-- A node that matches no bytes alone, wherever it is. -/
def Vac (ns : List Nd) (x : Int) : Prop := isIn ns x ∧ ∀ (l bits : List Nat) (i j : Nat), j ≤ l.length → nodeT l bits ns x i j = eqF i j
theorem Vac.up {ns : List Nd} {x : Int} (h : Vac ns x) (more : List Nd) : Vac (ns ++ more) x := ⟨h.1.up more, fun l bits i j hj => by rw [nodeT_up l bits more h.1]; exact h.2 l bits i j hj⟩
/-- r matches x, and behind it y. -/
def CatT (ns : List Nd) (x y : Int) (ms : List Nd) (r : Int) : Prop := ∀ (l bits : List Nat) (i j : Nat), j ≤ l.length → nodeT l bits ms r i j = thenF (nodeT l bits ns x) (nodeT l bits ns y) (l.length + 1) i j
def AhdR (ns : List Nd) (x y : Int) (ms : List Nd) (r : Int) : Prop := CatT ns x y ms r ∧ (kd ms r = 0 ∨ (r = y ∧ Vac ns x) ∨ (y < r ∧ kd ms r = 3))
section
variable {ns : List Nd} (hf : FineN ns)
include hf
theorem slim_at {x : Int} (hx : isIn ns x) {l bits : List Nat} {i j : Nat} (h : nodeT l bits ns x i j = true) : i ≤ j := slimT hf _ x (Nat.le_refl _) hx i j h
theorem cat_vac {x y : Int} (hx : Vac ns x) (hy : isIn ns y) : CatT ns x y ns y := fun l bits i j hj => bool_iff (by
  rw [then_iff]
  constructor
  · intro h
    exact ⟨i, by have := slim_at hf hy h; omega, Nat.le_refl _, slim_at hf hy h, by rw [hx.2 l bits i i (by have := slim_at hf hy h; omega)]; exact (eqF_iff _ _).2 rfl, h⟩
  · rintro ⟨q, q0, q1, q2, q3, q4⟩
    rw [hx.2 l bits i q (by omega)] at q3
    obtain rfl := (eqF_iff _ _).1 q3
    exact q4)
theorem cat_emp {x y : Int} (hx : isIn ns x) (hy : Vac ns y) : CatT ns x y ns x := fun l bits i j hj => bool_iff (by
  rw [then_iff]
  constructor
  · intro h
    exact ⟨j, by omega, slim_at hf hx h, Nat.le_refl _, h, by rw [hy.2 l bits j j hj]; exact (eqF_iff _ _).2 rfl⟩
  · rintro ⟨q, q0, q1, q2, q3, q4⟩
    rw [hy.2 l bits q j hj] at q4
    obtain rfl := (eqF_iff _ _).1 q4
    exact q3)
theorem vac_em {x : Int} (hx : isIn ns x) (k : kd ns x = 1) : Vac ns x := ⟨hx, fun l bits i j _ => by rw [T_em hf hx k]⟩
theorem T_no_at {x : Int} (hx : isIn ns x) (k : kd ns x = 0) (l bits : List Nat) (i j : Nat) : nodeT l bits ns x i j = false := by rw [T_no hf hx k]; rfl
theorem cat_none1 {x y : Int} (hx : isIn ns x) (k : kd ns x = 0) : CatT ns x y ns x := fun l bits i j hj => by
  rw [T_no_at hf hx k]
  refine (Bool.eq_false_iff.2 (fun h => ?_)).symm
  obtain ⟨q, _, _, _, q3, _⟩ := (then_iff _ _ _ _ _).1 h
  rw [T_no_at hf hx k] at q3; cases q3
theorem cat_none2 {x y : Int} (hy : isIn ns y) (k : kd ns y = 0) : CatT ns x y ns y := fun l bits i j hj => by
  rw [T_no_at hf hy k]
  refine (Bool.eq_false_iff.2 (fun h => ?_)).symm
  obtain ⟨q, _, _, _, _, q4⟩ := (then_iff _ _ _ _ _).1 h
  rw [T_no_at hf hy k] at q4; cases q4
theorem cat_made {more : List Nd} (hfm : FineN (ns ++ more)) {x y r : Int} (hx : isIn ns x) (hy : isIn ns y) (hr : isIn (ns ++ more) r) (hn : ndAt (ns ++ more) r.toNat = ⟨3, noSt, x, y, false⟩) : AhdR ns x y (ns ++ more) r := by
  have k3 : kd (ns ++ more) r = 3 := by unfold kd; rw [hn]
  have ka' : ka (ns ++ more) r = x := by unfold ka; rw [hn]
  have kb' : kb (ns ++ more) r = y := by unfold kb; rw [hn]
  refine ⟨fun l bits i j hj => ?_, Or.inr (Or.inr ⟨?_, k3⟩)⟩
  · rw [T_cat hfm hr k3, ka', kb', nodeT_up l bits more hx, nodeT_up l bits more hy]
  · have := (in_two hfm hr (Or.inl k3)).2.2
    rw [kb'] at this; exact this
/-- A Cat of a and b ahead of y: b ahead of y, and a ahead of that. -/
theorem cat_two {m1 m2 : List Nd} (hf1 : FineN (ns ++ m1)) (hf2 : FineN ((ns ++ m1) ++ m2)) {x y q r : Int} (hx : isIn ns x) (k3 : kd ns x = 3) (hy : isIn ns y) (y0 : kd ns y ≠ 0) (hq : isIn (ns ++ m1) q) (hr : isIn ((ns ++ m1) ++ m2) r)
    (h1 : AhdR ns (kb ns x) y (ns ++ m1) q) (q0 : kd (ns ++ m1) q ≠ 0) (h2 : AhdR (ns ++ m1) (ka ns x) q ((ns ++ m1) ++ m2) r) : AhdR ns x y ((ns ++ m1) ++ m2) r := by
  obtain ⟨⟨ia, la⟩, ib, lb⟩ := in_two hf hx (Or.inl k3)
  refine ⟨fun l bits i j hj => ?_, ?_⟩
  · rw [h2.1 l bits i j hj, T_cat hf hx k3, nodeT_up l bits m1 ia]
    refine bool_iff ?_
    rw [then_iff, then_iff]
    constructor
    · rintro ⟨p, p0, p1, p2, p3, p4⟩
      rw [h1.1 l bits p j hj, then_iff] at p4
      obtain ⟨t, t0, t1, t2, t3, t4⟩ := p4
      exact ⟨t, t0, by omega, t2, (then_iff _ _ _ _ _).2 ⟨p, p0, p1, t1, p3, t3⟩, t4⟩
    · rintro ⟨t, t0, t1, t2, t3, t4⟩
      rw [then_iff] at t3
      obtain ⟨p, p0, p1, p2, p3, p4⟩ := t3
      exact ⟨p, p0, p1, by omega, p3, by rw [h1.1 l bits p j hj, then_iff]; exact ⟨t, t0, p2, t2, p4, t4⟩⟩
  · rcases h2.2 with k | ⟨k, va⟩ | ⟨k, k'⟩
    · exact Or.inl k
    · rcases h1.2 with c | ⟨c, vb⟩ | ⟨c, c'⟩
      · exact absurd c q0
      · refine Or.inr (Or.inl ⟨k.trans c, hx, fun l bits i j hj => ?_⟩)
        rw [T_cat hf hx k3]
        refine bool_iff ?_
        rw [then_iff, eqF_iff]
        constructor
        · rintro ⟨p, p0, p1, p2, p3, p4⟩
          have e1 := va.2 l bits i p (by omega)
          rw [nodeT_up l bits m1 ia] at e1
          rw [e1, eqF_iff] at p3
          rw [vb.2 l bits p j hj, eqF_iff] at p4
          omega
        · rintro rfl
          have e1 := va.2 l bits i i hj
          rw [nodeT_up l bits m1 ia] at e1
          exact ⟨i, by omega, Nat.le_refl _, Nat.le_refl _, by rw [e1]; exact (eqF_iff _ _).2 rfl, by rw [vb.2 l bits i i hj]; exact (eqF_iff _ _).2 rfl⟩
      · right; right
        have : kd ((ns ++ m1) ++ m2) r = kd (ns ++ m1) q := by rw [k]; exact kd_up hq m2
        exact ⟨by omega, by rw [this]; exact c'⟩
    · right; right
      have : y ≤ q := by
        rcases h1.2 with c | ⟨c, _⟩ | ⟨c, _⟩
        · exact absurd c q0
        · omega
        · omega
      exact ⟨by omega, k'⟩
theorem cat_two_no {m1 : List Nd} (hf1 : FineN (ns ++ m1)) {x y q : Int} (hx : isIn ns x) (k3 : kd ns x = 3) (hq : isIn (ns ++ m1) q) (h1 : AhdR ns (kb ns x) y (ns ++ m1) q) (q0 : kd (ns ++ m1) q = 0) : AhdR ns x y (ns ++ m1) q := by
  obtain ⟨⟨ia, la⟩, ib, lb⟩ := in_two hf hx (Or.inl k3)
  refine ⟨fun l bits i j hj => ?_, Or.inl q0⟩
  rw [T_no_at hf1 hq q0]
  refine (Bool.eq_false_iff.2 (fun h => ?_)).symm
  obtain ⟨t, t0, t1, t2, t3, t4⟩ := (then_iff _ _ _ _ _).1 h
  rw [T_cat hf hx k3, then_iff] at t3
  obtain ⟨p, p0, p1, p2, p3, p4⟩ := t3
  have := h1.1 l bits p j hj
  rw [T_no_at hf1 hq q0] at this
  have h2 := (then_iff (nodeT l bits ns (kb ns x)) (nodeT l bits ns y) (l.length + 1) p j).2 ⟨t, t0, p2, t2, p4, t4⟩
  rw [← this] at h2; cases h2
end

/-- The chain in block g, its map mv: what is known to be vacant. -/
structure ChainAt (w : World) (a : Value) (ns : List Nd) (F : Nat → Prop) (g : Nat) (mv : Option Nat) (V : List Int) : Prop where
  box : At w g 195 #[a, .map mv]
  vac : ∀ x ∈ V, Vac ns x
  nodup : V.Nodup
  map : (mv = none ∧ V = []) ∨ ∃ m, mv = some m ∧ SeenAt w m V.length V
  gF : ¬ F g
  mF : ∀ m, mv = some m → ¬ F m ∧ m ≠ g ∧ m < w.heap.size
section
variable {w w' : World} {a : Value} {ns : List Nd} {F F' : Nat → Prop} {g : Nat} {mv : Option Nat} {V : List Int}
theorem ChainAt.kept (h : ChainAt w a ns F g mv V) (hs : w.heap.size ≤ w'.heap.size) (hg : w'.heap[g]? = w.heap[g]?) (hm : ∀ m, mv = some m → w'.heap[m]? = w.heap[m]?) (hF : ∀ b, F' b → F b ∨ w.heap.size ≤ b) (more : List Nd) : ChainAt w' a (ns ++ more) F' g mv V := by
  refine ⟨hg.trans h.box, fun x hx => (h.vac x hx).up more, h.nodup, ?_, fun q => ?_, fun m e => ⟨fun q => ?_, (h.mF m e).2.1, Nat.lt_of_lt_of_le (h.mF m e).2.2 hs⟩⟩
  · rcases h.map with q | ⟨m, e, q⟩
    · exact Or.inl q
    · exact Or.inr ⟨m, e, q.kept (hm m e)⟩
  · rcases hF g q with c | c
    · exact h.gF c
    · have := h.box.lt; omega
  · rcases hF m q with c | c
    · exact (h.mF m e).1 c
    · have := (h.mF m e).2.2; omega
theorem ChainAt.next (h : ChainAt w a ns F g mv V) (hb : Below w.heap.size w w') : ChainAt w' a ns F g mv V := by
  have := h.kept (F' := F) hb.size (hb.block _ h.box.lt) (fun m e => hb.block _ (h.mF m e).2.2) (fun b q => Or.inl q) []
  rwa [List.append_nil] at this
theorem ChainAt.off (h : ChainAt w a ns F g mv V) (ho : OffF F w w') (hF : ∀ b, F' b → F b ∨ w.heap.size ≤ b) (more : List Nd) : ChainAt w' a (ns ++ more) F' g mv V :=
  h.kept ho.size (ho.block _ h.box.lt h.gF) (fun m e => ho.block _ (h.mF m e).2.2 (h.mF m e).1) hF more
theorem ChainAt.look (h : ChainAt w a ns F g mv V) {x : Int} (hx : I64 x) : (Instr.lookup 110 (.map mv) (.int .i64 x) true).run Tryz.prog w = .ok (.tuple #[.agg #[], .bool (decide (x ∈ V))]) w := by
  rcases h.map with ⟨rfl, rfl⟩ | ⟨m, rfl, q⟩
  · rw [look_no w hx]; simp
  · exact q.look hx
theorem ChainAt.few (h : ChainAt w a ns F g mv V) : V.length ≤ ns.length := nodup_in (n := ns.length) h.nodup (fun z hz => (h.vac z hz).1)
end
section
variable {AA : World → Value → List Nd → (Nat → Prop) → Prop}
/-- What ahead answers, and what it leaves. -/
def AhdPost (AA : World → Value → List Nd → (Nat → Prop) → Prop) (w : World) (a : Value) (ns : List Nd) (F : Nat → Prop) (x y : Int) (g : Nat) (mv : Option Nat) (V : List Int) (e : Ending) (w' : World) : Prop :=
  ∃ (r : Int) (more : List Nd) (F' : Nat → Prop) (mv' : Option Nat) (V' : List Int), e = .returned (.int .i64 r) ∧ AA w' a (ns ++ more) F' ∧ (∀ b, F' b → F b ∨ w.heap.size ≤ b) ∧ OffF (fun b => F b ∨ b = g ∨ mv = some b) w w' ∧ ChainAt w' a (ns ++ more) F' g mv' V' ∧ (∀ m, mv' = some m → mv = some m ∨ w.heap.size ≤ m) ∧ (∀ z ∈ V', z ∈ V ∨ z ≤ x) ∧ (r = -1 ∨ (isIn (ns ++ more) r ∧ AhdR ns x y (ns ++ more) r))
theorem AhdPost.from {w w1 w' : World} {a : Value} {ns : List Nd} {F : Nat → Prop} {x y : Int} {g : Nat} {mv : Option Nat} {V : List Int} {e : Ending} (h : AhdPost AA w1 a ns F x y g mv V e w') (hb : Below w.heap.size w w1) : AhdPost AA w a ns F x y g mv V e w' := by
  obtain ⟨r, more, F', mv', V', h0, h1, h2, h3, h4, h5, h6, h7⟩ := h
  refine ⟨r, more, F', mv', V', h0, h1, fun b q => (h2 b q).imp id (fun z => Nat.le_trans hb.size z), (OffF.of hb).off h3 (fun b q => Or.inl q), h4, fun m e => (h5 m e).imp id (fun z => Nat.le_trans hb.size z), h6, h7⟩
theorem AhdPost.stay (S : ArenaMid AA) {w w' : World} {a : Value} {ns : List Nd} {F : Nat → Prop} {x y r : Int} {g : Nat} {mv : Option Nat} {V : List Int} (h : AA w a ns F) (hc : ChainAt w a ns F g mv V) (hb : Below w.heap.size w w') (hr : isIn ns r) (hR : AhdR ns x y ns r) : AhdPost AA w a ns F x y g mv V (.returned (.int .i64 r)) w' :=
  ⟨r, [], F, mv, V, rfl, by rw [List.append_nil]; exact S.next h hb, fun b q => Or.inl q, OffF.of hb, by rw [List.append_nil]; exact hc.next hb, fun m e => Or.inl e, fun z hz => Or.inl hz, Or.inr (by rw [List.append_nil]; exact ⟨hr, hR⟩)⟩
/-- What ahead does, as far as the numbers up to n. -/
def GAhead (AA : World → Value → List Nd → (Nat → Prop) → Prop) (n : Nat) : Prop := ∀ (x y : Int) {w : World} {a : Value} {ns : List Nd} {F : Nat → Prop} {g : Nat} {mv : Option Nat} {V : List Int}, x.toNat ≤ n → AA w a ns F → isIn ns x → isIn ns y → kd ns y ≠ 0 → kd ns y ≠ 1 → ChainAt w a ns F g mv V →
  Calls Tryz.prog 164 #[.pointer (some ⟨g, 0, none⟩), .int .i64 x, .int .i64 y] w (AhdPost AA w a ns F x y g mv V)

set_option maxRecDepth 100000 in
set_option maxHeartbeats 8000000 in
/-- markVacant. -/
theorem gMark {w : World} {a : Value} {ns : List Nd} {F : Nat → Prop} {g : Nat} {mv : Option Nat} {V : List Int} (x : Int) (hmx : ns.length ≤ 20000) (h : ChainAt w a ns F g mv V) (hx : Vac ns x) (hV : x ∉ V) (hF : ∀ b, F b → b < w.heap.size) :
    Calls Tryz.prog 207 #[.pointer (some ⟨g, 0, none⟩), .int .i64 x] w fun e w' => e = .returned (.tuple #[]) ∧ ∃ mv', ChainAt w' a ns F g mv' (x :: V) ∧ (∀ m, mv' = some m → mv = some m ∨ w.heap.size ≤ m) ∧ OffF (fun b => b = g ∨ mv = some b) w w' := by
  have hxI : I64 x := by have := hx.1; unfold isIn at this; unfold I64; omega
  have hfew := h.few
  have hvx : ∀ y ∈ x :: V, Vac ns y := fun y hy => by
    rcases List.mem_cons.1 hy with rfl | hy
    · exact hx
    · exact h.vac y hy
  have q30 : ∀ (w : World) (r : Option Nat), (binOp .eql 110 (.map r) (.map none)).run Tryz.prog w = .ok (.bool r.isNone) w := fun w r => run_eql_map_nil w _ _ _ r Tryz.underlying110
  have hgl := h.box.lt
  rcases h.map with ⟨rfl, rfl⟩ | ⟨m, rfl, hm⟩
  · have c1 : w.cell? ⟨g, 1, none⟩ = some (.map none) := h.box.cell 1
    have hmm := @run_makeMap Tryz.prog
    obtain ⟨W, hW⟩ : ∃ W, W = (w.setCell ⟨g, 1, none⟩ (.map (some w.heap.size))).alloc (.map #[] 0) := ⟨_, rfl⟩
    have hG1 : At W g 195 #[a, .map (some w.heap.size)] := by
      rw [hW]
      exact (h.box.set 1 (.map (some w.heap.size))).alloc _
    have hM1 : SeenAt W w.heap.size 0 [] := by
      have := SeenAt.made (w.setCell ⟨g, 1, none⟩ (.map (some w.heap.size)))
      rw [World.size_setCell] at this
      rw [hW]; exact this
    have hO1 : OffF (fun b => b = g ∨ none = some b) w W := by
      rw [hW]
      exact ((OffF.of (Below.refl _ w)).set (Or.inl rfl) _).then ((Below.refl _ _).alloc (Nat.le_refl _) _)
    obtain ⟨W2, s1, s2, s3⟩ := hM1.store hxI (by omega)
    have f1 : (w.alloc (.map #[] 0)).frozen? ⟨g, 1, none⟩ = false := (h.box.alloc _).free 1
    have c1a : (w.alloc (.map #[] 0)).cell? ⟨g, 1, none⟩ = some (.map none) := (h.box.alloc _).cell 1
    have c1s : W.cell? ⟨g, 1, none⟩ = some (.map (some w.heap.size)) := hG1.cell 1
    have hEnd : ChainAt W2 a ns F g (some w.heap.size) (x :: []) ∧ OffF (fun b => b = g ∨ none = some b) w W2 := by
      refine ⟨⟨(s3.block _ hG1.lt (fun e => by injection e with e; omega)).trans hG1, hvx, List.nodup_cons.2 ⟨hV, h.nodup⟩, Or.inr ⟨_, rfl, s2⟩, h.gF, fun m e => ?_⟩, hO1.grown s3 (fun b e => by injection e with e; exact Or.inr (by omega))⟩
      injection e with e
      refine ⟨fun q => ?_, by omega, ?_⟩
      · have := hF m q
        omega
      · have h1 := s2.lt
        omega
    have HEnd := Lib.hid hEnd
    rw [hW] at s1 c1s
    clear h hx hV hvx hW hG1 hM1 hO1 s2 s3 hEnd
    go_enter Tryz.func207, Tryz.ntmps207
    go_wp2_with fail
    go_end0
    exact ⟨rfl, _, HEnd.out.1, fun m e => by injection e with e; exact Or.inr (by omega), HEnd.out.2⟩
  · have c1 : w.cell? ⟨g, 1, none⟩ = some (.map (some m)) := h.box.cell 1
    obtain ⟨W2, s1, s2, s3⟩ := hm.store hxI (by omega)
    have hEnd : ChainAt W2 a ns F g (some m) (x :: V) ∧ OffF (fun b => b = g ∨ some m = some b) w W2 := by
      refine ⟨⟨(s3.block _ h.box.lt (fun e => by injection e with e; exact (h.mF m rfl).2.1 e.symm)).trans h.box, hvx, List.nodup_cons.2 ⟨hV, h.nodup⟩, Or.inr ⟨_, rfl, s2⟩, h.gF, fun m' e => ⟨(h.mF m' e).1, (h.mF m' e).2.1, Nat.lt_of_lt_of_le (h.mF m' e).2.2 s3.size⟩⟩, (OffF.of (Below.refl _ w)).grown s3 (fun b e => Or.inl (Or.inr e))⟩
    have HEnd := Lib.hid hEnd
    clear h hx hV hvx hm s2 s3 hEnd
    go_enter Tryz.func207, Tryz.ntmps207
    go_wp2_with fail
    go_end0
    exact ⟨rfl, _, HEnd.out.1, fun m e => Or.inl e, HEnd.out.2⟩
end

end Go.Proofs.YthifbaacmohmnaaGreat
