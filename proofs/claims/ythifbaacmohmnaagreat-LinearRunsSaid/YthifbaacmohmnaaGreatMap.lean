/- Joined: FoF, FoG, FoH. -/
import Derived.Test.YthifbaacmohmnaaGreatMao
/- package formula: both, with. -/
namespace Go.Proofs.YthifbaacmohmnaaGreat
open Go.RowKit
set_option linter.unusedVariables false
set_option linter.unusedSimpArgs false

theorem sort_le (l : List Int) : (l.mergeSort fun x y => decide (x ≤ y)).Pairwise (· ≤ ·) := by
  have := List.pairwise_mergeSort (le := fun x y : Int => decide (x ≤ y)) (fun a b c => by simp; omega) (fun a b => by simp; omega) l
  exact this.imp (fun {a b} h => by simpa using h)
theorem sort_mem (l : List Int) (x : Int) : x ∈ (l.mergeSort fun x y => decide (x ≤ y)) ↔ x ∈ l := List.mem_mergeSort
theorem fm_two {w : World} {u v : Value} {a b : List Int} {T : TypeId} (h : IntsAt w u a) (h' : IntsAt w v b) : FmAt (w.alloc (.cells #[u, v] T)) (.slice (some ⟨w.heap.size, 0, none⟩) 2 2) [a, b] := by
  have hb : Below w.heap.size w (w.alloc (.cells #[u, v] T)) := (Below.refl _ _).alloc (Nat.le_refl _) _
  have hA := At.new w T #[u, v]
  refine ⟨_, 2, rfl, Nat.le_refl _, by omega, fun _ => ⟨w.heap.size, 0, rfl, hA.lt, fun j hj => ?_⟩⟩
  have hj' : j < 2 := hj
  match j, hj' with
  | 0, _ => exact ⟨u, hA.cell 0, h.next hb⟩
  | 1, _ => exact ⟨v, hA.cell 1, h'.next hb⟩

theorem ints_ptok {w : World} {R : Nat → Prop} {A : Option Addr} {c : Nat} {l : List Int} {m : Nat} (h : IntsAt w (.slice A l.length c) l) (hA : ∀ b off s, A = some ⟨b, off, s⟩ → ¬ R b) (hu : Up l) (h0 : ∀ x ∈ l, 0 ≤ x ∧ x ≤ 9223372036854775807) (hm : MarkOk m l) : PtOk w R ⟨.slice A l.length c, m, l⟩ := by
  obtain ⟨A', c', e, h2, h3, h4, h5⟩ := h
  injection e with e1 _ e3
  subst e1 e3
  refine ⟨⟨A, c, rfl, h2, h3, fun h0 => ?_⟩, ⟨hu, h0⟩, hm⟩
  obtain ⟨b, off, e, hb, r⟩ := h5 h0
  exact ⟨b, off, e, hA b off _ e, hb, r⟩

set_option maxRecDepth 100000 in
set_option maxHeartbeats 8000000 in
theorem fBoth (p q : Pt) (R R' : Nat → Prop) (w : World) (hp : PtOk w R p) (hq : PtOk w R' q) (hl : p.l.length + q.l.length ≤ 4000000) :
    Calls Tryz.prog 213 #[.agg #[p.v, .int .u64 p.m], .agg #[q.v, .int .u64 q.m]] w fun e w' => ∃ t : Pt, e = .returned (.agg #[t.v, .int .u64 t.m]) ∧ PtOk w' (fun b => b < w.heap.size) t ∧ (∀ x, x ∈ t.l ↔ x ∈ p.l ∨ x ∈ q.l) ∧ t.l.length ≤ p.l.length + q.l.length ∧ Below w.heap.size w w' := by
  have HP := Lib.hid hp
  have HQ := Lib.hid hq
  have HL := Lib.hid hl
  obtain ⟨Ap, cp, hv, _⟩ := hp.1
  obtain ⟨Aq, cq, hv', _⟩ := hq.1
  obtain ⟨pv, hpv⟩ : ∃ pv, p.v = pv := ⟨_, rfl⟩
  obtain ⟨qv, hqv⟩ : ∃ qv, q.v = qv := ⟨_, rfl⟩
  rw [hpv] at hv ⊢
  rw [hqv] at hv' ⊢
  subst hv hv'
  have HPv := Lib.hid hpv
  have HQv := Lib.hid hqv
  clear hp hq hl hpv hqv
  go_enter Tryz.func213, Tryz.ntmps213
  have h1 : At (((w.alloc (.cells #[.slice Ap p.l.length cp, .int .u64 p.m] 171)).alloc (.cells #[.slice Aq q.l.length cq, .int .u64 q.m] 171)).alloc (.cells #[.slice none 0 0, .int .u64 0] 171)) w.heap.size 171 #[.slice Ap p.l.length cp, .int .u64 p.m] := ((At.new _ _ _).alloc _).alloc _
  have h2 : At (((w.alloc (.cells #[.slice Ap p.l.length cp, .int .u64 p.m] 171)).alloc (.cells #[.slice Aq q.l.length cq, .int .u64 q.m] 171)).alloc (.cells #[.slice none 0 0, .int .u64 0] 171)) (w.heap.size + 1) 171 #[.slice Aq q.l.length cq, .int .u64 q.m] := by
    have := (At.new (w.alloc (.cells #[.slice Ap p.l.length cp, .int .u64 p.m] 171)) 171 #[.slice Aq q.l.length cq, .int .u64 q.m]).alloc (.cells #[.slice none 0 0, .int .u64 0] 171)
    simpa using this
  have h3 : At (((w.alloc (.cells #[.slice Ap p.l.length cp, .int .u64 p.m] 171)).alloc (.cells #[.slice Aq q.l.length cq, .int .u64 q.m] 171)).alloc (.cells #[.slice none 0 0, .int .u64 0] 171)) (w.heap.size + 1 + 1) 171 #[.slice none 0 0, .int .u64 0] := by
    have := At.new ((w.alloc (.cells #[.slice Ap p.l.length cp, .int .u64 p.m] 171)).alloc (.cells #[.slice Aq q.l.length cq, .int .u64 q.m] 171)) 171 #[.slice none 0 0, .int .u64 0]
    simpa using this
  have hB0 : Below w.heap.size w (((w.alloc (.cells #[.slice Ap p.l.length cp, .int .u64 p.m] 171)).alloc (.cells #[.slice Aq q.l.length cq, .int .u64 q.m] 171)).alloc (.cells #[.slice none 0 0, .int .u64 0] 171)) :=
    (((Below.refl _ _).alloc (Nat.le_refl _) _).alloc (by simp) _).alloc (by simp; omega) _
  have hs0 : (((w.alloc (.cells #[.slice Ap p.l.length cp, .int .u64 p.m] 171)).alloc (.cells #[.slice Aq q.l.length cq, .int .u64 q.m] 171)).alloc (.cells #[.slice none 0 0, .int .u64 0] 171)).heap.size = w.heap.size + 1 + 1 + 1 := by simp
  go_wp2_with fail
  obtain ⟨w0, hw0⟩ : ∃ w0, w0 = ((w.alloc (.cells #[.slice Ap p.l.length cp, .int .u64 p.m] 171)).alloc (.cells #[.slice Aq q.l.length cq, .int .u64 q.m] 171)).alloc (.cells #[.slice none 0 0, .int .u64 0] 171) := ⟨_, rfl⟩
  rw [← hw0] at h1 h2 h3 hB0 hs0 ⊢
  clear hw0
  have i1 : IntsAt w0 (.slice Ap p.l.length cp) p.l := by rw [← HPv.out]; exact HP.out.ints.next hB0
  have i2 : IntsAt w0 (.slice Aq q.l.length cq) q.l := by rw [← HQv.out]; exact HQ.out.ints.next hB0
  have hfm := (fm_two (T := 80) i1 i2).srcs
  rw [hs0] at hfm
  have hb1 : Below w0.heap.size w0 (w0.alloc (.cells #[.slice Ap p.l.length cp, .slice Aq q.l.length cq] 80)) := (Below.refl _ _).alloc (Nat.le_refl _) _
  have hL4 := HL.out
  have hsum : sumE ([p.l, q.l].map (fun p => (p.length, p.map (Value.int .i64)))) ≤ 4000000 := by rw [fm_sum]; simpa using hL4
  have hC := fConcatI _ _ _ _ _ hfm hsum
  with_reducible refine hC.mono ?_
  rintro e w1 ⟨v1, rfl, hown, hb2⟩
  rw [fm_sum, fm_cat] at hown
  have hfl : [p.l, q.l].flatten = p.l ++ q.l := by simp
  rw [hfl] at hown
  have HB1 : Hid (Below w0.heap.size w0 w1) := Lib.hid (hb1.trans (hb2.mono hb1.size))
  have HOw : Hid (Ints w1 (w.heap.size + 1 + 1 + 1) v1 (p.l ++ q.l)) := Lib.hid (by
    have hsz := hb1.size
    rw [hs0] at hsz
    obtain ⟨r1, r2 | ⟨g', cap, cur, r2, r3, r4⟩⟩ := hown
    · exact ⟨r1, .inl r2⟩
    · exact ⟨r1, .inr ⟨g', cap, cur, r2, by omega, r4⟩⟩)
  have H1 : Hid (At w1 w.heap.size 171 #[.slice Ap p.l.length cp, .int .u64 p.m]) := Lib.hid (h1.below HB1.out h1.lt)
  have H2 : Hid (At w1 (w.heap.size + 1) 171 #[.slice Aq q.l.length cq, .int .u64 q.m]) := Lib.hid (h2.below HB1.out h2.lt)
  have H3 : Hid (At w1 (w.heap.size + 1 + 1) 171 #[.slice none 0 0, .int .u64 0]) := Lib.hid (h3.below HB1.out h3.lt)
  have HB2 : Hid (Below w.heap.size w w1) := Lib.hid (hB0.trans (HB1.out.mono hB0.size))
  clear h1 h2 h3 hB0 hb1 hb2 hown hfl i1 i2 hfm hs0
  go_wp2_with fail
  refine (fSort HOw.out (by rw [List.length_append]; exact Nat.le_trans HL.out (by decide))).mono ?_
  rintro e w2 ⟨rfl, hso, hg2⟩
  have hlow : ∀ k, v1.ownBlock = some k → w.heap.size + 1 + 1 + 1 ≤ k := fun k e => (World.ownsRow.lt HOw.out k e).1
  have HLow := Lib.hid hlow
  have HSo := Lib.hid hso
  have K1 : Hid (At w2 w.heap.size 171 #[.slice Ap p.l.length cp, .int .u64 p.m]) := Lib.hid (at_keep H1.out hg2 (fun e => by have := hlow _ e; omega))
  have K2 : Hid (At w2 (w.heap.size + 1) 171 #[.slice Aq q.l.length cq, .int .u64 q.m]) := Lib.hid (at_keep H2.out hg2 (fun e => by have := hlow _ e; omega))
  have K3 : Hid (At w2 (w.heap.size + 1 + 1) 171 #[.slice none 0 0, .int .u64 0]) := Lib.hid (at_keep H3.out hg2 (fun e => by have := hlow _ e; omega))
  have HB3 : Hid (Below w.heap.size w w2) := Lib.hid (below_gr HB2.out HB2.out.size hg2 (fun k e => by have := hlow k e; omega))
  obtain ⟨S, hS⟩ : ∃ S, (p.l ++ q.l).mergeSort (fun x y => decide (x ≤ y)) = S := ⟨_, rfl⟩
  rw [hS] at HSo
  have hle := sort_le (p.l ++ q.l)
  have hme := sort_mem (p.l ++ q.l)
  have hln : S.length = p.l.length + q.l.length := by rw [← hS]; simp
  rw [hS] at hle hme
  have HLe := Lib.hid hle
  have HMe := Lib.hid hme
  have HLn := Lib.hid hln
  have HIs : Hid (∀ x ∈ S, IsI x ∧ 0 ≤ x ∧ x ≤ 9223372036854775807) := Lib.hid (fun x hx => by
    have := (hme x).1 hx
    rcases List.mem_append.1 this with h | h
    · have := HP.out.2.1.2 x h; unfold IsI; omega
    · have := HQ.out.2.1.2 x h; unfold IsI; omega)
  clear hso hg2 hlow hS hle hme hln
  have hcall := fCompact (w := w2.drew) (base := w.heap.size + 1 + 1 + 1) (v := v1) (l := S) HSo.out (fun x hx => (HIs.out x hx).1) (by rw [HLn.out]; exact Nat.le_trans HL.out (by decide))
  have HCall := Lib.hid hcall
  have k1 : w2.drew.cell? ⟨w.heap.size, 1, none⟩ = some (.int .u64 p.m) := K1.out.cell 1
  have k2 : w2.drew.cell? ⟨w.heap.size + 1, 1, none⟩ = some (.int .u64 q.m) := K2.out.cell 1
  have eo : bits .or .u64 (p.m : Int) (q.m : Int) = ((p.m ||| q.m : Nat) : Int) := bits_or _ _ HP.out.2.2.1 HQ.out.2.2.1
  have HBd : Hid (Below w.heap.size w w2.drew) := Lib.hid (Below.drew HB3.out)
  have hfin : Hid (∀ (w3 : World) (A3 : Option Addr) (c3 : Nat), IntsAt w3 (.slice A3 (Lib.compact S).length c3) (Lib.compact S) → (∀ b off s, A3 = some ⟨b, off, s⟩ → w.heap.size + 1 + 1 + 1 ≤ b) → Below w.heap.size w w3 →
      ∃ t : Pt, Ending.returned (.agg #[.slice A3 (Lib.compact S).length c3, .int .u64 (p.m ||| q.m : Nat)]) = .returned (.agg #[t.v, .int .u64 t.m]) ∧ PtOk ((w3.setCell ⟨w.heap.size + 1 + 1, 0, none⟩ (.slice A3 (Lib.compact S).length c3)).setCell ⟨w.heap.size + 1 + 1, 1, none⟩ (.int .u64 (p.m ||| q.m : Nat))) (fun b => b < w.heap.size) t ∧ (∀ x, x ∈ t.l ↔ x ∈ p.l ∨ x ∈ q.l) ∧ t.l.length ≤ p.l.length + q.l.length ∧
        Below w.heap.size w ((w3.setCell ⟨w.heap.size + 1 + 1, 0, none⟩ (.slice A3 (Lib.compact S).length c3)).setCell ⟨w.heap.size + 1 + 1, 1, none⟩ (.int .u64 (p.m ||| q.m : Nat)))) := Lib.hid (by
    intro w3 A3 c3 hi3 hl3 hb3
    obtain ⟨u1, u2⟩ := compact_up HLe.out
    have hmm : ∀ x, x ∈ Lib.compact S ↔ x ∈ p.l ∨ x ∈ q.l := fun x => by rw [u2 x, HMe.out x, List.mem_append]
    refine ⟨⟨.slice A3 (Lib.compact S).length c3, p.m ||| q.m, Lib.compact S⟩, rfl, ?_, hmm, ?_, (hb3.setCell (p := ⟨w.heap.size + 1 + 1, 0, none⟩) (by dsimp only; omega) _).setCell (p := ⟨w.heap.size + 1 + 1, 1, none⟩) (by dsimp only; omega) _⟩
    · have h := ints_ptok (R := fun b => b < w.heap.size + 1 + 1 + 1) hi3 (fun b off s e h => by have := hl3 b off s e; omega) u1 (fun x hx => (HIs.out x ((u2 x).1 hx)).2) (mark_or HP.out.2.2 HQ.out.2.2 hmm)
      exact (h.grown (grown2 w3 (w.heap.size + 1 + 1) 0 1 _ _) (fun k e => by injection e with e; subst e; exact Nat.lt_succ_self _)).forget (fun b _ h => Nat.lt_of_lt_of_le h (by omega))
    · show (Lib.compact S).length ≤ _
      have := Lib.compact_length_le S
      have := HLn.out
      omega)
  clear hcall
  go_wp2_with fail
  go_region_with (first
    | (go_at_call 109; (with_reducible refine (HCall.out).mono ?_); rintro e w3 ⟨A3, c3, rfl, hi3, hlow3, hg3⟩
       have M1 : Hid (At w3 w.heap.size 171 #[.slice Ap p.l.length cp, .int .u64 p.m]) := Lib.hid (at_keep (w := w2.drew) K1.out hg3 (fun e => by have := HLow.out _ e; omega))
       have M2 : Hid (At w3 (w.heap.size + 1) 171 #[.slice Aq q.l.length cq, .int .u64 q.m]) := Lib.hid (at_keep (w := w2.drew) K2.out hg3 (fun e => by have := HLow.out _ e; omega))
       have M3 : Hid (At w3 (w.heap.size + 1 + 1) 171 #[.slice none 0 0, .int .u64 0]) := Lib.hid (at_keep (w := w2.drew) K3.out hg3 (fun e => by have := HLow.out _ e; omega))
       have m1 := M1.out.cell 1
       have m2 := M2.out.cell 1
       have m30 := M3.out.cell 0
       have m31 := M3.out.cell 1
       have n30 := M3.out.free 0
       have n31 := M3.out.free 1
       have Hi3 := Lib.hid hi3
       have Hlow3 := Lib.hid hlow3
       have HB4 := Lib.hid (below_gr HBd.out HBd.out.size hg3 (fun k e => by have := HLow.out k e; omega))
       clear hi3 hlow3 hg3))
  all_goals go_wp2_with fail
  all_goals exact bodyPost_ret (results_cell_row Tryz.results213 _ _ (w.heap.size + 1 + 1) 171 #[.slice A3 (Lib.compact S).length c3, .int .u64 (p.m ||| q.m : Nat)] (0, 0) _ rfl ((M3.out.set 0 _).set 1 _) Tryz.underlying171 rfl (by kernel_rfl)) rfl (hfin.out _ _ _ Hi3.out Hlow3.out HB4.out)

end Go.Proofs.YthifbaacmohmnaaGreat

/- package formula: with. -/
namespace Go.Proofs.YthifbaacmohmnaaGreat
open Go.RowKit
set_option linter.unusedVariables false
set_option linter.unusedSimpArgs false

/-- What 'with' answers: the parts of p with each of g's; or p alone. -/
def WithOk (p : Pt) (g ts : List Pt) : Prop :=
  (g.any (fun q => subS q.l p.l) = true ∧ ts = [p]) ∨ (g.any (fun q => subS q.l p.l) = false ∧ ts.length = g.length ∧ ∀ j (h : j < ts.length) (h' : j < g.length), (∀ x, x ∈ ts[j].l ↔ x ∈ p.l ∨ x ∈ g[j].l) ∧ ts[j].l.length ≤ p.l.length + g[j].l.length)

set_option maxRecDepth 100000 in
set_option maxHeartbeats 8000000 in
theorem fWith (p : Pt) (xs : List Pt) (A : Option Addr) (n c : Nat) (R : Nat → Prop) (w : World) (hp : PtOk w R p) (h : PsAt w (.slice A n c) xs) (hl : ∀ x ∈ p :: xs, x.l.length ≤ 1000000) (hn : xs.length ≤ 1000000) :
    Calls Tryz.prog 205 #[.agg #[p.v, .int .u64 p.m], .slice A n c] w fun e w' => ∃ v ts, e = .returned v ∧ Pts w' w.heap.size v ts ∧ (∀ t ∈ ts, PtOk w' (fun b => b < w.heap.size ∧ R b ∨ v.ownBlock = some b) t) ∧ WithOk p xs ts ∧ Below w.heap.size w w' := by
  have HI := Lib.hid h
  have HP := Lib.hid hp
  obtain ⟨hm, hm2, hm3⟩ := h.max
  obtain rfl := h.len
  have HL := Lib.hid hl
  have hB0 : Below w.heap.size w (w.alloc (.cells #[p.v, .int .u64 p.m] 171)) := (Below.refl _ _).alloc (Nat.le_refl _) _
  have hA0 : At (w.alloc (.cells #[p.v, .int .u64 p.m] 171)) w.heap.size 171 #[p.v, .int .u64 p.m] := At.new _ _ _
  obtain ⟨Ap, cp, hv, _⟩ := hp.1
  obtain ⟨pv, hpv⟩ : ∃ pv, p.v = pv := ⟨_, rfl⟩
  rw [hpv] at hv hB0 hA0 ⊢
  subst hv
  have HPv := Lib.hid hpv
  clear h hp hl hpv
  go_enter Tryz.func205, Tryz.ntmps205
  go_wp2_with fail
  generalize w.alloc (.cells #[.slice Ap p.l.length cp, .int .u64 p.m] 171) = W at hB0 hA0 ⊢
  have HB := Lib.hid hB0
  have HA := Lib.hid hA0
  have a0 := hA0.cell 0
  have a1 := hA0.cell 1
  clear hB0 hA0
  have hpW : PtOk W R p := HP.out.below HB.out
  have hone := (fHasOne p xs A _ c R W hpW (HI.out.next HB.out) (fun x hx => by have := HL.out x hx; omega))
  rw [HPv.out] at hone
  refine hone.mono ?_
  rintro e w1 ⟨rfl, hb1⟩
  have HB1 := Lib.hid (HB.out.trans (hb1.mono HB.out.size))
  have HA1 := Lib.hid (HA.out.below hb1 HA.out.lt)
  have hs1 : Hid (w.heap.size < w1.heap.size) := Lib.hid (Nat.lt_of_lt_of_le HA.out.lt hb1.size)
  have c0 := HA1.out.cell 0
  have c1 := HA1.out.cell 1
  have f0 := HA1.out.free 0
  have f1 := HA1.out.free 1
  obtain ⟨r, hr⟩ : ∃ r, xs.any (fun q => subS q.l p.l) = r := ⟨_, rfl⟩
  have HR := Lib.hid hr
  rw [hr]
  clear hr hone hpW hb1 a0 a1
  cases r
  · have hmk := make_parts xs.length (by omega)
    have hrow := made_parts w1 xs.length
    have hB2 := HB1.out.alloc HB1.out.size (.cells (madeCells partZero (xs.length * 2)) 171)
    have hA2 := HA1.out.alloc (.cells (madeCells partZero (xs.length * 2)) 171)
    go_wp2_with fail
    clear hmk c0 c1 f0 f1
    generalize w1.alloc (.cells (madeCells partZero (xs.length * 2)) 171) = W2 at hrow hB2 hA2 ⊢
    obtain ⟨g2, hg2⟩ : ∃ g2, g2 = w1.heap.size := ⟨_, rfl⟩
    have hs2 : Hid (w.heap.size < g2) := Lib.hid (by rw [hg2]; exact hs1.out)
    rw [← hg2] at hrow ⊢
    clear hg2
    go_loopw [18] (fun v wr => ∃ (i : Nat), i ≤ xs.length ∧ v = .int .i64 i ∧ Hid (Below w.heap.size w wr) ∧ Hid (At wr w.heap.size 171 #[.slice Ap p.l.length cp, .int .u64 p.m]) ∧
      Hid (∃ ts : List Pt, RowF wr g2 xs.length (fun j => ts[j]?) ∧ (∀ t ∈ ts, PtOk wr (fun b => b < w.heap.size ∨ b = g2) t) ∧ ts.length = i ∧ ∀ j (h : j < ts.length) (h' : j < xs.length), (∀ x, x ∈ ts[j].l ↔ x ∈ p.l ∨ x ∈ xs[j].l) ∧ ts[j].l.length ≤ p.l.length + xs[j].l.length)) (fun v _ => xs.length - (intOf v).toNat)
    case atStart => exact ⟨0, Nat.zero_le _, rfl, Lib.hid hB2, Lib.hid hA2, Lib.hid ⟨[], hrow.weaken (fun j x hx => by simp at hx), (fun t ht => by cases ht), rfl, fun j h => absurd h (Nat.not_lt_zero _)⟩⟩
    case round =>
      obtain ⟨i, hi, rfl, HB, HA, HT⟩ := hrel
      by_cases hlt : i < xs.length
      · have h1 : (0 : Int) ≤ (i : Int) := by omega
        have h2 : (i : Int) < (xs.length : Int) := by omega
        obtain ⟨g, x, rfl, _, hx, q0, q1, hxo⟩ := (HI.out.next HB.out).at i hlt
        have HX := Lib.hid hxo
        have HXi := Lib.hid hx
        obtain ⟨Ax, cx, hv, _⟩ := hxo.1
        obtain ⟨xv, hxv⟩ : ∃ xv, x.v = xv := ⟨_, rfl⟩
        rw [hxv] at hv q0
        subst hv
        have HXv := Lib.hid hxv
        clear hxo hx hxv
        have c0 := HA.out.cell 0
        have c1 := HA.out.cell 1
        have f0 := HA.out.free 0
        have f1 := HA.out.free 1
        have hsz := HA.out.lt
        have hmem : Hid (x ∈ p :: xs) := Lib.hid (List.mem_cons_of_mem _ (by rw [← (List.getElem?_eq_some_iff.1 HXi.out).2]; exact List.getElem_mem hlt))
        have hB1 : Hid (Below wr.heap.size wr (wr.alloc (.cells #[.slice Ax x.l.length cx, .int .u64 x.m] 171))) := Lib.hid ((Below.refl _ _).alloc (Nat.le_refl _) _)
        go_wp2_with fail
        have hbo := fBoth p x R (fun _ => False) (wr.alloc (.cells #[.slice Ax x.l.length cx, .int .u64 x.m] 171)) ((HP.out.below HB.out).below hB1.out) (HX.out.below hB1.out) (by have := HL.out p (by simp); have := HL.out x hmem.out; omega)
        rw [HPv.out, HXv.out] at hbo
        have HBo := Lib.hid hbo
        clear hbo c0 c1 f0 f1 q0 q1 hsz
        refine HBo.out.mono ?_
        rintro e w5 ⟨t5, rfl, k1, k2, k3, k4⟩
        obtain ⟨ts, a1, a2, a3, a4⟩ := HT.out
        have HB5 := Lib.hid (hB1.out.trans (k4.mono hB1.out.size))
        have a1' := Lib.hid (a1.next HB5.out)
        obtain ⟨u0, u1, d0, d1⟩ := a1'.out.there hlt
        have e0 := a1'.out.free (i * 2)
        have e1 := a1'.out.free (i * 2 + 1)
        obtain ⟨A5, c5, hv5, _⟩ := k1.1
        obtain ⟨v5, hv5'⟩ : ∃ v5, t5.v = v5 := ⟨_, rfl⟩
        rw [hv5'] at hv5 ⊢
        subst hv5
        have HV5 := Lib.hid hv5'
        have K1 := Lib.hid k1
        have K2 := Lib.hid k2
        have K3 := Lib.hid k3
        have HA2 := Lib.hid a2
        have HA3 := Lib.hid a3
        have HA4 := Lib.hid a4
        have hgl : Hid (g2 < wr.heap.size) := Lib.hid a1.lt
        clear k1 k2 k3 k4 a1 a2 a3 a4 hv5'
        go_wp2_with fail
        have hg := grown2 w5 g2 (i * 2) (i * 2 + 1) (.slice A5 t5.l.length c5) (.int .u64 t5.m)
        have HB6 : Below w.heap.size w w5 := HB.out.trans (HB5.out.mono HB.out.size)
        have hs2' := hs2.out
        have hgl' := hgl.out
        refine ⟨⟨i + 1, by omega, by go_num, Lib.hid ?_, Lib.hid ?_, Lib.hid ⟨ts ++ [t5], ?_, ?_, ?_, ?_⟩⟩, by simp [intOf]; omega⟩
        · exact (HB6.setCell (p := ⟨g2, i * 2, none⟩) (by show w.heap.size ≤ g2; omega) _).setCell (p := ⟨g2, i * 2 + 1, none⟩) (by show w.heap.size ≤ g2; omega) _
        · exact at_keep (HA.out.below HB5.out HA.out.lt) hg (fun e => by injection e with e; omega)
        · have := a1'.out.put hlt t5
          rw [HV5.out] at this
          exact this.weaken (pa_push HA3.out _)
        · intro t ht
          rcases List.mem_append.1 ht with h | h
          · exact ((HA2.out t h).below HB5.out).grown hg (fun k e => by injection e with e; exact Or.inr e.symm)
          · rw [List.mem_singleton.1 h]
            refine (K1.out.forget (R' := fun b => b < w.heap.size ∨ b = g2) (fun b _ h => ?_)).grown hg (fun k e => by injection e with e; exact Or.inr e.symm)
            have := hB1.out.size
            have := HB.out.size
            rcases h with h | h <;> omega
        · rw [List.length_append, HA3.out]; rfl
        · intro j hj hj'
          by_cases e : j < ts.length
          · rw [List.getElem_append_left e]; exact HA4.out j e hj'
          · have ej : j = i := by have := HA3.out; simp at hj; omega
            subst ej
            have e2 : (ts ++ [t5])[j] = t5 := by
              rw [List.getElem_append_right (by omega)]; simp
            have e3 : xs[j] = x := (List.getElem?_eq_some_iff.1 HXi.out).2
            rw [e2, e3]
            exact ⟨K2.out, K3.out⟩
      · obtain rfl : i = xs.length := by omega
        go_wp2_with fail
        go_ret
        obtain ⟨ts, a1, a2, a3, a4⟩ := HT.out
        have hown := a1.own (base := w.heap.size) ts (fun j h => List.getElem?_eq_getElem h) (by omega) (by unfold maxLen; omega) (by have := hs2.out; omega)
        rw [a3] at hown
        refine ⟨_, ts, rfl, hown, fun t ht => (a2 t ht).forget (fun b _ h => ?_), .inr ⟨HR.out, a3, a4⟩, HB.out⟩
        rcases h with h | h
        · exact .inl h.1
        · injection h with h; exact .inr h.symm
  · go_wp2_with fail
    go_ret
    have hpW : PtOk w1 R p := HP.out.below HB1.out
    have hb : Below w1.heap.size w1 (w1.alloc (.cells #[.slice Ap p.l.length cp, .int .u64 p.m] 171)) := (Below.refl _ _).alloc (Nat.le_refl _) _
    refine ⟨_, [p], rfl, ?_, ?_, .inl ⟨HR.out, rfl⟩, HB1.out.trans (hb.mono HB1.out.size)⟩
    · refine ⟨rfl, .inr ⟨w1.heap.size, 1, _, rfl, by have := hs1.out; omega, At.new w1 171 #[.slice Ap p.l.length cp, .int .u64 p.m], Nat.le_refl _, by decide, rfl, ?_⟩⟩
      show [Value.slice Ap p.l.length cp, .int .u64 p.m] = [p.v, .int .u64 p.m]
      rw [HPv.out]
    · intro t ht
      rw [List.mem_singleton.1 ht]
      have hBt := HB1.out.trans (hb.mono HB1.out.size)
      refine HP.out.kept hBt.size (fun b _ hb => hBt.block b hb) (fun b hb' h => ?_)
      rcases h with h | h
      · exact h.2
      · injection h with h
        have := hs1.out
        dsimp only at h
        omega

end Go.Proofs.YthifbaacmohmnaaGreat

/- package formula: the sort of parts. -/
namespace Go.Proofs.YthifbaacmohmnaaGreat
open Go.RowKit
set_option linter.unusedVariables false
set_option linter.unusedSimpArgs false

set_option maxRecDepth 100000 in
set_option maxHeartbeats 4000000 in
/-- The order's closure: two blocks of its own, and nothing else. -/
theorem fLeast1 (x y : Pt) (R R' : Nat → Prop) (w : World) (hx : PtOk w R x) (hy : PtOk w R' y) :
    Calls Tryz.prog 140 #[.agg #[x.v, .int .u64 x.m], .agg #[y.v, .int .u64 y.m]] w fun e w' => e = .returned (.int .i64 (ordS x.l y.l)) ∧ w' = (w.alloc (.cells #[x.v, .int .u64 x.m] 171)).alloc (.cells #[y.v, .int .u64 y.m] 171) := by
  have HP := Lib.hid hx
  have HQ := Lib.hid hy
  obtain ⟨Ap, cp, hv, _⟩ := hx.1
  obtain ⟨Aq, cq, hv', _⟩ := hy.1
  obtain ⟨pv, hpv⟩ : ∃ pv, x.v = pv := ⟨_, rfl⟩
  obtain ⟨qv, hqv⟩ : ∃ qv, y.v = qv := ⟨_, rfl⟩
  rw [hpv] at hv ⊢
  rw [hqv] at hv' ⊢
  subst hv hv'
  have HPv := Lib.hid hpv
  have HQv := Lib.hid hqv
  clear hx hy hpv hqv
  go_enter Tryz.func140, Tryz.ntmps140
  have hB0 : Below w.heap.size w ((w.alloc (.cells #[.slice Ap x.l.length cp, .int .u64 x.m] 171)).alloc (.cells #[.slice Aq y.l.length cq, .int .u64 y.m] 171)) := ((Below.refl _ _).alloc (Nat.le_refl _) _).alloc (by simp) _
  go_wp2_with fail
  have i1 : IntsAt ((w.alloc (.cells #[.slice Ap x.l.length cp, .int .u64 x.m] 171)).alloc (.cells #[.slice Aq y.l.length cq, .int .u64 y.m] 171)) (.slice Ap x.l.length cp) x.l := by have := HP.out.ints.next hB0; rwa [HPv.out] at this
  have i2 : IntsAt ((w.alloc (.cells #[.slice Ap x.l.length cp, .int .u64 x.m] 171)).alloc (.cells #[.slice Aq y.l.length cq, .int .u64 y.m] 171)) (.slice Aq y.l.length cq) y.l := by have := HQ.out.ints.next hB0; rwa [HQv.out] at this
  refine (fOrd x.l y.l Ap Aq _ cp _ cq _ i1 i2).mono ?_
  rintro e w3 ⟨rfl, rfl⟩
  go_wp2_with fail
  go_ret
  exact ⟨rfl, rfl⟩

/-- The parts that are as they should be, in a world. -/
def Ok (w : World) (g : Nat) := {x : Pt // PtOk w (fun b => b = g) x}
instance (w : World) (g : Nat) : Inhabited (Ok w g) := ⟨⟨Pt.zero, PtOk.zero _ _⟩⟩
def encS (w : World) (g : Nat) (x : Ok w g) : List Value := encP x.val
theorem flatK_at {w : World} {g : Nat} (d : Array (Ok w g)) (j : Nat) (hj : j < d.size) : (Sort.flatK (encS w g) 2 d)[j * 2]! = (d[j]!).val.v ∧ (Sort.flatK (encS w g) 2 d)[j * 2 + 1]! = .int .u64 (d[j]!).val.m := by
  constructor
  · rw [Sort.get_flatK _ _ _ _ (by omega), show j * 2 / 2 = j by omega, show j * 2 % 2 = 0 by omega]; rfl
  · rw [Sort.get_flatK _ _ _ _ (by omega), show (j * 2 + 1) / 2 = j by omega, show (j * 2 + 1) % 2 = 1 by omega]; rfl
theorem rowF_holds {w : World} {g cap : Nat} {d : Array (Ok w g)} (h : RowF w g cap (fun j => d[j]?.map (·.val))) : Sort.HoldsK (encS w g) 2 w g 0 d := by
  intro t ht
  rw [Sort.size_flatK] at ht
  have hj : t / 2 < d.size := by omega
  obtain ⟨a, b⟩ := h.cell (j := t / 2) (x := d[t / 2].val) (by rw [Array.getElem?_eq_getElem hj]; rfl)
  obtain ⟨a', b'⟩ := flatK_at d (t / 2) hj
  rw [getElem!_pos d (t / 2) hj] at a' b'
  obtain ⟨k, hk⟩ : ∃ k, t / 2 = k := ⟨_, rfl⟩
  refine ⟨?_, h.free _⟩
  rw [Nat.zero_add]
  rcases Nat.mod_two_eq_zero_or_one t with e | e
  · obtain rfl : t = k * 2 := by omega
    simp only [hk] at a a'
    rw [a, a']; rfl
  · obtain rfl : t = k * 2 + 1 := by omega
    simp only [hk] at b b'
    rw [b, b']; rfl
theorem sorted_heap {w : World} {g n : Nat} {os : Array Obj} {cs : Array Value} {t : TypeId} {w0 : World} {g0 : Nat} (d : Array (Ok w0 g0)) (h : At w g t cs) :
    At (sortWorldK (encS w0 g0) 2 w g 0 n d os) g t (Sort.putCells id 0 (Sort.flatK (encS w0 g0) 2 d) cs) := by
  have hg := h.lt
  unfold At sortWorldK Sort.putRowK at *
  rw [Sort.heap_grow_old _ _ (by simpa [Sort.putRow, Sort.mapBlock, Sort.ahead] using hg)]
  simp [Sort.putRow, Sort.mapBlock, Sort.ahead, Array.getElem?_modify, h, Sort.onCells]
theorem sorted_grown {w : World} {g n : Nat} {os : Array Obj} {w0 : World} {g0 : Nat} (d : Array (Ok w0 g0)) : w.grownBy (sortWorldK (encS w0 g0) 2 w g 0 n d os) (some g) := by
  unfold sortWorldK Sort.putRowK
  refine ⟨rfl, rfl, rfl, by simp [Sort.grow, Sort.putRow, Sort.mapBlock, Sort.ahead], fun k hk hne => ?_⟩
  rw [Sort.heap_grow_old _ _ (by simpa [Sort.putRow, Sort.mapBlock, Sort.ahead] using hk)]
  have : g ≠ k := fun e => hne (by rw [e])
  simp [Sort.putRow, Sort.mapBlock, Sort.ahead, Array.getElem?_modify, this]
theorem sorted_row {w : World} {g cap n : Nat} {os : Array Obj} {w0 : World} {g0 : Nat} {f : Nat → Option Pt} (d : Array (Ok w0 g0)) (h : RowF w g cap f) (hc : d.size ≤ cap) :
    RowF (sortWorldK (encS w0 g0) 2 w g 0 n d os) g cap (fun j => d[j]?.map (·.val)) := by
  obtain ⟨cs, hA, hs, _⟩ := h
  refine ⟨_, sorted_heap d hA, by simp [Sort.putCells, hs], fun j x hx => ?_⟩
  dsimp only at hx
  obtain ⟨y, hy, rfl⟩ := Option.map_eq_some_iff.1 hx
  obtain ⟨hj, rfl⟩ := Array.getElem?_eq_some_iff.1 hy
  obtain ⟨a, b⟩ := flatK_at d j hj
  rw [getElem!_pos d j hj] at a b
  refine ⟨by omega, ?_, ?_⟩
  · unfold Sort.putCells
    rw [Array.getElem?_mapIdx, Array.getElem?_eq_getElem (by omega), Option.map_some, if_pos ⟨Nat.zero_le _, by rw [Sort.size_flatK]; omega⟩, Nat.sub_zero, a]; rfl
  · unfold Sort.putCells
    rw [Array.getElem?_mapIdx, Array.getElem?_eq_getElem (by omega), Option.map_some, if_pos ⟨Nat.zero_le _, by rw [Sort.size_flatK]; omega⟩, Nat.sub_zero, b]; rfl
theorem less_false {a b c : List Int} (h : lessS a b = false) (h' : lessS b c = false) : lessS a c = false := by
  rw [← Bool.not_eq_true] at *
  intro e
  rcases less_total b a with h1 | h1 | rfl
  · exact h' (less_trans h1 e)
  · exact h h1
  · exact h' e
theorem swo (w : World) (g : Nat) : Sort.SWO (Proofs.ltOf fun x y : Ok w g => ordS x.val.l y.val.l) where
  irrefl x := by show decide _ = false; rw [decide_eq_false_iff_not, ord_lt, less_irr]; simp
  trans x y z h1 h2 := by
    have h1 : decide _ = true := h1
    have h2 : decide _ = true := h2
    rw [decide_eq_true_eq, ord_lt] at h1 h2
    show decide _ = true
    rw [decide_eq_true_eq, ord_lt]; exact less_trans h1 h2
  ntrans x y z h1 h2 := by
    have h1 : decide _ = false := h1
    have h2 : decide _ = false := h2
    rw [decide_eq_false_iff_not, ord_lt, Bool.not_eq_true] at h1 h2
    show decide _ = false
    rw [decide_eq_false_iff_not, ord_lt, Bool.not_eq_true]; exact less_false h1 h2
set_option maxRecDepth 100000 in
theorem fSortParts (xs : List Pt) (w : World) (g cap c : Nat) (hr : RowF w g cap (fun j => xs[j]?)) (hx : ∀ x ∈ xs, PtOk w (fun b => b = g) x) (hn : xs.length ≤ cap) (hl : xs.length ≤ 4000000) :
    Calls Tryz.prog 139 #[.slice (some ⟨g, 0, none⟩) xs.length c, .func (.func 140) #[] #[]] w fun e w' =>
      e = .returned (.tuple #[]) ∧ ∃ d : Array (Ok w g), (d.toList.map (·.val)).Perm xs ∧ (∀ i j, i < j → j < d.size → lessS (d[j]!).val.l (d[i]!).val.l = false) ∧ RowF w' g cap (fun j => d[j]?.map (·.val)) ∧ ∃ n os, w' = sortWorldK (encS w g) 2 w g 0 n d os := by
  have eg : ∀ args w, (callFunc 140 args).run Tryz.prog w = .ok (.enter 140 args) w := enters_of Tryz.func140 (by kernel_rfl) rfl
  obtain ⟨d, hd⟩ : ∃ d : Array (Ok w g), d.toList.map (·.val) = xs := ⟨(xs.attachWith _ hx).toArray, by show List.map Subtype.val _ = xs; simp⟩
  have hsz : d.size = xs.length := by rw [← hd]; simp
  have hrd : RowF w g cap (fun j => d[j]?.map (·.val)) := hr.weaken (fun j x e => by rw [← hd, List.getElem?_map, Array.getElem?_toList]; exact e)
  have hH := rowF_holds hrd
  have hcmp : Proofs.CmpLays Tryz.prog 140 #[] (encS w g) 2 (fun x y : Ok w g => ordS x.val.l y.val.l) g 0 d.size w := by
    intro m os dk hdk x y
    have hg := sorted_grown (w := w) (g := g) (n := m) (os := os) dk
    have hc := fLeast1 x.val y.val (fun b => b = g) (fun b => b = g) (sortWorldK (encS w g) 2 w g 0 m dk os) (x.property.grown hg (fun k e => by injection e with e; exact e.symm)) (y.property.grown hg (fun k e => by injection e with e; exact e.symm))
    refine hc.mono ?_
    rintro e w' ⟨rfl, rfl⟩
    refine ⟨rfl, 0, #[.cells #[x.val.v, .int .u64 x.val.m] 171, .cells #[y.val.v, .int .u64 y.val.m] 171], ?_⟩
    rw [Sort.alloc_eq_grow, Sort.alloc_eq_grow, Sort.grow_grow]; rfl
  have hS := Proofs.AnyQ.slices_SortFunc lib_laysSortParts 2 Tryz.isAgg171 Tryz.sizeOf171 (encS w g) (fun _ => rfl) (fun x v hv => by
    have hv : v ∈ encP x.val := hv
    simp only [encP, List.mem_cons, List.not_mem_nil, or_false] at hv
    rcases hv with rfl | rfl
    · exact x.property.one
    · rfl) (fun x y : Ok w g => ordS x.val.l y.val.l) (swo w g) 140 #[] g 0 c d w eg hcmp hH hr.lt (by omega)
  rw [hsz] at hS
  refine hS.mono ?_
  rintro e w' ⟨rfl, d', n, os, hp, hs, rfl⟩
  obtain ⟨p1, _, p3⟩ := hp
  have hpd : d'.toList.Perm d.toList := by
    have e1 : d'.extract 0 xs.length = d' := by rw [← hsz, ← p1]; simp
    have e2 : d.extract 0 xs.length = d := by rw [← hsz]; simp
    rw [e1, e2] at p3
    exact p3
  refine ⟨rfl, d', ?_, fun i j hij hj => ?_, sorted_row d' hr (by omega), n, os, rfl⟩
  · rw [← hd]; exact hpd.map _
  · have h := hs i j (Nat.zero_le _) hij (by omega)
    have h : decide _ = false := h
    rw [decide_eq_false_iff_not, ord_lt, Bool.not_eq_true] at h
    exact h

end Go.Proofs.YthifbaacmohmnaaGreat
