/- package formula: both, with. -/
import Derived.Test.YtehokjaojanieaaFoD
namespace Go.Proofs.Ytehokjaojanieaa
open Go.RowKit
set_option linter.unusedVariables false
set_option linter.unusedSimpArgs false

theorem sort_le (l : List Int) : (l.mergeSort fun x y => decide (x ≤ y)).Pairwise (· ≤ ·) := by
  have := List.pairwise_mergeSort (le := fun x y : Int => decide (x ≤ y)) (fun a b c => by simp; omega) (fun a b => by simp; omega) l
  exact this.imp (fun {a b} h => by simpa using h)
theorem sort_mem (l : List Int) (x : Int) : x ∈ (l.mergeSort fun x y => decide (x ≤ y)) ↔ x ∈ l := List.mem_mergeSort
theorem fm_two {w : World} {u v : Value} {a b : List Int} {T : TypeId} (h : IntsAt w u a) (h' : IntsAt w v b) : FmAt (w.alloc (.cells #[u, v] T)) (.slice (some ⟨w.heap.size, 0, none⟩) 2 2) [a, b] := by
  have hb : Below w.heap.size w (w.alloc (.cells #[u, v] T)) := (Below.refl _ _).alloc (Nat.le_refl _) _
  have hA := At.new w T #[u, v]
  refine ⟨_, 2, rfl, Nat.le_refl _, by omega, fun _ => ⟨w.heap.size, 0, rfl, hA.lt, fun j hj => ?_⟩⟩
  have hj' : j < 2 := hj
  match j, hj' with
  | 0, _ => exact ⟨u, hA.cell 0, h.next hb⟩
  | 1, _ => exact ⟨v, hA.cell 1, h'.next hb⟩

theorem ints_ptok {w : World} {R : Nat → Prop} {A : Option Addr} {c : Nat} {l : List Int} {m : Nat} (h : IntsAt w (.slice A l.length c) l) (hA : ∀ b off s, A = some ⟨b, off, s⟩ → ¬ R b) (hu : Up l) (h0 : ∀ x ∈ l, 0 ≤ x ∧ x ≤ 9223372036854775807) (hm : MarkOk m l) : PtOk w R ⟨.slice A l.length c, m, l⟩ := by
  obtain ⟨A', c', e, h2, h3, h4, h5⟩ := h
  injection e with e1 _ e3
  subst e1 e3
  refine ⟨⟨A, c, rfl, h2, h3, fun h0 => ?_⟩, ⟨hu, h0⟩, hm⟩
  obtain ⟨b, off, e, hb, r⟩ := h5 h0
  exact ⟨b, off, e, hA b off _ e, hb, r⟩

set_option maxRecDepth 100000 in
set_option maxHeartbeats 8000000 in
theorem fBoth (p q : Pt) (R R' : Nat → Prop) (w : World) (hp : PtOk w R p) (hq : PtOk w R' q) (hl : p.l.length + q.l.length ≤ 4000000) :
    Calls Try.prog 58 #[.agg #[p.v, .int .u64 p.m], .agg #[q.v, .int .u64 q.m]] w fun e w' => ∃ t : Pt, e = .returned (.agg #[t.v, .int .u64 t.m]) ∧ PtOk w' (fun b => b < w.heap.size) t ∧ (∀ x, x ∈ t.l ↔ x ∈ p.l ∨ x ∈ q.l) ∧ t.l.length ≤ p.l.length + q.l.length ∧ Below w.heap.size w w' := by
  have HP := Lib.hid hp
  have HQ := Lib.hid hq
  have HL := Lib.hid hl
  obtain ⟨Ap, cp, hv, _⟩ := hp.1
  obtain ⟨Aq, cq, hv', _⟩ := hq.1
  obtain ⟨pv, hpv⟩ : ∃ pv, p.v = pv := ⟨_, rfl⟩
  obtain ⟨qv, hqv⟩ : ∃ qv, q.v = qv := ⟨_, rfl⟩
  rw [hpv] at hv ⊢
  rw [hqv] at hv' ⊢
  subst hv hv'
  have HPv := Lib.hid hpv
  have HQv := Lib.hid hqv
  clear hp hq hl hpv hqv
  go_enter Try.func58, Try.ntmps58
  have h1 : At (((w.alloc (.cells #[.slice Ap p.l.length cp, .int .u64 p.m] 50)).alloc (.cells #[.slice Aq q.l.length cq, .int .u64 q.m] 50)).alloc (.cells #[.slice none 0 0, .int .u64 0] 50)) w.heap.size 50 #[.slice Ap p.l.length cp, .int .u64 p.m] := ((At.new _ _ _).alloc _).alloc _
  have h2 : At (((w.alloc (.cells #[.slice Ap p.l.length cp, .int .u64 p.m] 50)).alloc (.cells #[.slice Aq q.l.length cq, .int .u64 q.m] 50)).alloc (.cells #[.slice none 0 0, .int .u64 0] 50)) (w.heap.size + 1) 50 #[.slice Aq q.l.length cq, .int .u64 q.m] := by
    have := (At.new (w.alloc (.cells #[.slice Ap p.l.length cp, .int .u64 p.m] 50)) 50 #[.slice Aq q.l.length cq, .int .u64 q.m]).alloc (.cells #[.slice none 0 0, .int .u64 0] 50)
    simpa using this
  have h3 : At (((w.alloc (.cells #[.slice Ap p.l.length cp, .int .u64 p.m] 50)).alloc (.cells #[.slice Aq q.l.length cq, .int .u64 q.m] 50)).alloc (.cells #[.slice none 0 0, .int .u64 0] 50)) (w.heap.size + 1 + 1) 50 #[.slice none 0 0, .int .u64 0] := by
    have := At.new ((w.alloc (.cells #[.slice Ap p.l.length cp, .int .u64 p.m] 50)).alloc (.cells #[.slice Aq q.l.length cq, .int .u64 q.m] 50)) 50 #[.slice none 0 0, .int .u64 0]
    simpa using this
  have hB0 : Below w.heap.size w (((w.alloc (.cells #[.slice Ap p.l.length cp, .int .u64 p.m] 50)).alloc (.cells #[.slice Aq q.l.length cq, .int .u64 q.m] 50)).alloc (.cells #[.slice none 0 0, .int .u64 0] 50)) :=
    (((Below.refl _ _).alloc (Nat.le_refl _) _).alloc (by simp) _).alloc (by simp; omega) _
  have hs0 : (((w.alloc (.cells #[.slice Ap p.l.length cp, .int .u64 p.m] 50)).alloc (.cells #[.slice Aq q.l.length cq, .int .u64 q.m] 50)).alloc (.cells #[.slice none 0 0, .int .u64 0] 50)).heap.size = w.heap.size + 1 + 1 + 1 := by simp
  go_wp2_with fail
  obtain ⟨w0, hw0⟩ : ∃ w0, w0 = ((w.alloc (.cells #[.slice Ap p.l.length cp, .int .u64 p.m] 50)).alloc (.cells #[.slice Aq q.l.length cq, .int .u64 q.m] 50)).alloc (.cells #[.slice none 0 0, .int .u64 0] 50) := ⟨_, rfl⟩
  rw [← hw0] at h1 h2 h3 hB0 hs0 ⊢
  clear hw0
  have i1 : IntsAt w0 (.slice Ap p.l.length cp) p.l := by rw [← HPv.out]; exact HP.out.ints.next hB0
  have i2 : IntsAt w0 (.slice Aq q.l.length cq) q.l := by rw [← HQv.out]; exact HQ.out.ints.next hB0
  have hfm := (fm_two (T := 34) i1 i2).srcs
  rw [hs0] at hfm
  have hb1 : Below w0.heap.size w0 (w0.alloc (.cells #[.slice Ap p.l.length cp, .slice Aq q.l.length cq] 34)) := (Below.refl _ _).alloc (Nat.le_refl _) _
  have hL4 := HL.out
  have hsum : sumS ([p.l, q.l].map (fun p => (p.length, p.map (Value.int .i64)))) ≤ 4000000 := by rw [fm_sum]; simpa using hL4
  have hC := fConcatI _ _ _ _ _ hfm hsum
  with_reducible refine hC.mono ?_
  rintro e w1 ⟨v1, rfl, hown, hb2⟩
  rw [fm_sum, fm_cat] at hown
  have hfl : [p.l, q.l].flatten = p.l ++ q.l := by simp
  rw [hfl] at hown
  have HB1 : Hid (Below w0.heap.size w0 w1) := Lib.hid (hb1.trans (hb2.mono hb1.size))
  have HOw : Hid (Ints w1 (w.heap.size + 1 + 1 + 1) v1 (p.l ++ q.l)) := Lib.hid (by
    have hsz := hb1.size
    rw [hs0] at hsz
    obtain ⟨r1, r2 | ⟨g', cap, cur, r2, r3, r4⟩⟩ := hown
    · exact ⟨r1, .inl r2⟩
    · exact ⟨r1, .inr ⟨g', cap, cur, r2, by omega, r4⟩⟩)
  have H1 : Hid (At w1 w.heap.size 50 #[.slice Ap p.l.length cp, .int .u64 p.m]) := Lib.hid (h1.below HB1.out h1.lt)
  have H2 : Hid (At w1 (w.heap.size + 1) 50 #[.slice Aq q.l.length cq, .int .u64 q.m]) := Lib.hid (h2.below HB1.out h2.lt)
  have H3 : Hid (At w1 (w.heap.size + 1 + 1) 50 #[.slice none 0 0, .int .u64 0]) := Lib.hid (h3.below HB1.out h3.lt)
  have HB2 : Hid (Below w.heap.size w w1) := Lib.hid (hB0.trans (HB1.out.mono hB0.size))
  clear h1 h2 h3 hB0 hb1 hb2 hown hfl i1 i2 hfm hs0
  go_wp2_with fail
  refine (fSort HOw.out (by rw [List.length_append]; exact HL.out)).mono ?_
  rintro e w2 ⟨rfl, hso, hg2⟩
  have hlow : ∀ k, v1.ownBlock = some k → w.heap.size + 1 + 1 + 1 ≤ k := fun k e => (World.ownsRow.lt HOw.out k e).1
  have HLow := Lib.hid hlow
  have HSo := Lib.hid hso
  have K1 : Hid (At w2 w.heap.size 50 #[.slice Ap p.l.length cp, .int .u64 p.m]) := Lib.hid (at_keep H1.out hg2 (fun e => by have := hlow _ e; omega))
  have K2 : Hid (At w2 (w.heap.size + 1) 50 #[.slice Aq q.l.length cq, .int .u64 q.m]) := Lib.hid (at_keep H2.out hg2 (fun e => by have := hlow _ e; omega))
  have K3 : Hid (At w2 (w.heap.size + 1 + 1) 50 #[.slice none 0 0, .int .u64 0]) := Lib.hid (at_keep H3.out hg2 (fun e => by have := hlow _ e; omega))
  have HB3 : Hid (Below w.heap.size w w2) := Lib.hid (below_gr HB2.out HB2.out.size hg2 (fun k e => by have := hlow k e; omega))
  obtain ⟨S, hS⟩ : ∃ S, (p.l ++ q.l).mergeSort (fun x y => decide (x ≤ y)) = S := ⟨_, rfl⟩
  rw [hS] at HSo
  have hle := sort_le (p.l ++ q.l)
  have hme := sort_mem (p.l ++ q.l)
  have hln : S.length = p.l.length + q.l.length := by rw [← hS]; simp
  rw [hS] at hle hme
  have HLe := Lib.hid hle
  have HMe := Lib.hid hme
  have HLn := Lib.hid hln
  have HIs : Hid (∀ x ∈ S, IsI x ∧ 0 ≤ x ∧ x ≤ 9223372036854775807) := Lib.hid (fun x hx => by
    have := (hme x).1 hx
    rcases List.mem_append.1 this with h | h
    · have := HP.out.2.1.2 x h; unfold IsI; omega
    · have := HQ.out.2.1.2 x h; unfold IsI; omega)
  clear hso hg2 hlow hS hle hme hln
  have hcall := fCompact (w := w2.drew) (base := w.heap.size + 1 + 1 + 1) (v := v1) (l := S) HSo.out (fun x hx => (HIs.out x hx).1) (by rw [HLn.out]; exact HL.out)
  have HCall := Lib.hid hcall
  have k1 : w2.drew.cell? ⟨w.heap.size, 1, none⟩ = some (.int .u64 p.m) := K1.out.cell 1
  have k2 : w2.drew.cell? ⟨w.heap.size + 1, 1, none⟩ = some (.int .u64 q.m) := K2.out.cell 1
  have eo : bits .or .u64 (p.m : Int) (q.m : Int) = ((p.m ||| q.m : Nat) : Int) := bits_or _ _ HP.out.2.2.1 HQ.out.2.2.1
  have HBd : Hid (Below w.heap.size w w2.drew) := Lib.hid (Below.drew HB3.out)
  have hfin : Hid (∀ (w3 : World) (A3 : Option Addr) (c3 : Nat), IntsAt w3 (.slice A3 (Lib.compact S).length c3) (Lib.compact S) → (∀ b off s, A3 = some ⟨b, off, s⟩ → w.heap.size + 1 + 1 + 1 ≤ b) → Below w.heap.size w w3 →
      ∃ t : Pt, Ending.returned (.agg #[.slice A3 (Lib.compact S).length c3, .int .u64 (p.m ||| q.m : Nat)]) = .returned (.agg #[t.v, .int .u64 t.m]) ∧ PtOk ((w3.setCell ⟨w.heap.size + 1 + 1, 0, none⟩ (.slice A3 (Lib.compact S).length c3)).setCell ⟨w.heap.size + 1 + 1, 1, none⟩ (.int .u64 (p.m ||| q.m : Nat))) (fun b => b < w.heap.size) t ∧ (∀ x, x ∈ t.l ↔ x ∈ p.l ∨ x ∈ q.l) ∧ t.l.length ≤ p.l.length + q.l.length ∧
        Below w.heap.size w ((w3.setCell ⟨w.heap.size + 1 + 1, 0, none⟩ (.slice A3 (Lib.compact S).length c3)).setCell ⟨w.heap.size + 1 + 1, 1, none⟩ (.int .u64 (p.m ||| q.m : Nat)))) := Lib.hid (by
    intro w3 A3 c3 hi3 hl3 hb3
    obtain ⟨u1, u2⟩ := compact_up HLe.out
    have hmm : ∀ x, x ∈ Lib.compact S ↔ x ∈ p.l ∨ x ∈ q.l := fun x => by rw [u2 x, HMe.out x, List.mem_append]
    refine ⟨⟨.slice A3 (Lib.compact S).length c3, p.m ||| q.m, Lib.compact S⟩, rfl, ?_, hmm, ?_, (hb3.setCell (p := ⟨w.heap.size + 1 + 1, 0, none⟩) (by dsimp only; omega) _).setCell (p := ⟨w.heap.size + 1 + 1, 1, none⟩) (by dsimp only; omega) _⟩
    · have h := ints_ptok (R := fun b => b < w.heap.size + 1 + 1 + 1) hi3 (fun b off s e h => by have := hl3 b off s e; omega) u1 (fun x hx => (HIs.out x ((u2 x).1 hx)).2) (mark_or HP.out.2.2 HQ.out.2.2 hmm)
      exact (h.grown (grown2 w3 (w.heap.size + 1 + 1) 0 1 _ _) (fun k e => by injection e with e; subst e; exact Nat.lt_succ_self _)).forget (fun b _ h => Nat.lt_of_lt_of_le h (by omega))
    · show (Lib.compact S).length ≤ _
      have := Lib.compact_length_le S
      have := HLn.out
      omega)
  clear hcall
  go_wp2_with fail
  go_region_with (first
    | (go_at_call 71; (with_reducible refine (HCall.out).mono ?_); rintro e w3 ⟨A3, c3, rfl, hi3, hlow3, hg3⟩
       have M1 : Hid (At w3 w.heap.size 50 #[.slice Ap p.l.length cp, .int .u64 p.m]) := Lib.hid (at_keep (w := w2.drew) K1.out hg3 (fun e => by have := HLow.out _ e; omega))
       have M2 : Hid (At w3 (w.heap.size + 1) 50 #[.slice Aq q.l.length cq, .int .u64 q.m]) := Lib.hid (at_keep (w := w2.drew) K2.out hg3 (fun e => by have := HLow.out _ e; omega))
       have M3 : Hid (At w3 (w.heap.size + 1 + 1) 50 #[.slice none 0 0, .int .u64 0]) := Lib.hid (at_keep (w := w2.drew) K3.out hg3 (fun e => by have := HLow.out _ e; omega))
       have m1 := M1.out.cell 1
       have m2 := M2.out.cell 1
       have m30 := M3.out.cell 0
       have m31 := M3.out.cell 1
       have n30 := M3.out.free 0
       have n31 := M3.out.free 1
       have Hi3 := Lib.hid hi3
       have Hlow3 := Lib.hid hlow3
       have HB4 := Lib.hid (below_gr HBd.out HBd.out.size hg3 (fun k e => by have := HLow.out k e; omega))
       clear hi3 hlow3 hg3))
  all_goals go_wp2_with fail
  all_goals exact bodyPost_ret (results_cell_row Try.results58 _ _ (w.heap.size + 1 + 1) 50 #[.slice A3 (Lib.compact S).length c3, .int .u64 (p.m ||| q.m : Nat)] (0, 0) _ rfl ((M3.out.set 0 _).set 1 _) Try.underlying50 rfl (by kernel_rfl)) rfl (hfin.out _ _ _ Hi3.out Hlow3.out HB4.out)

end Go.Proofs.Ytehokjaojanieaa
