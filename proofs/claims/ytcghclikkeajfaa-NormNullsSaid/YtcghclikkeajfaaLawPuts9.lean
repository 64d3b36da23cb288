/- bolterlaw09.ArenaPuts, by what an arena does. -/
import Derived.Test.YtcghclikkeajfaaArenaAwake
import Derived.Test.YtcghclikkeajfaaMe
import Derived.Test.YtcghclikkeajfaaNodeEq
import Derived.Deep.QuietTactic
import Derived.BigQuiet
namespace Go.Proofs.Ytcghclikkeajfaa
open Go.RowKit
set_option linter.unusedSimpArgs false
set_option linter.unusedVariables false

theorem fewN (A : Option Addr) (n c : Nat) (w : World) (v : Bool) (hv : decide (n ≤ 40) = v) : Calls Try.prog 18 #[.slice A n c] w fun e w' => e = .returned (.bool v) ∧ w = w' := by
  subst hv
  go_enter Try.func18, Try.ntmps18
  go_wp2_with fail
  go_ret
  refine ⟨?_, rfl⟩
  show Ending.returned (.bool (decide ((n : Int) ≤ 40))) = _
  by_cases h : n ≤ 40
  · rw [decide_eq_true h, decide_eq_true (by omega)]
  · rw [decide_eq_false h, decide_eq_false (by omega)]
theorem nd_cells8 {w : World} {b o : Nat} {x : Nd} (h : w.rangeAt b o x.cs) : w.cell? ⟨b, o, none⟩ = some (.int .i64 x.kind) ∧ w.cell? ⟨b, o + 1, none⟩ = some (.int .u64 x.set.w0) ∧ w.cell? ⟨b, o + 2, none⟩ = some (.int .u64 x.set.w1) ∧ w.cell? ⟨b, o + 3, none⟩ = some (.int .u64 x.set.w2) ∧ w.cell? ⟨b, o + 4, none⟩ = some (.int .u64 x.set.w3) ∧ w.cell? ⟨b, o + 5, none⟩ = some (.int .i64 x.a) ∧ w.cell? ⟨b, o + 6, none⟩ = some (.int .i64 x.b) ∧ w.cell? ⟨b, o + 7, none⟩ = some (.bool x.neg) :=
  ⟨h 0 _ rfl, h 1 _ rfl, h 2 _ rfl, h 3 _ rfl, h 4 _ rfl, h 5 _ rfl, h 6 _ rfl, h 7 _ rfl⟩
theorem ndEqL (w : World) (x y : Nd) (v : Bool) (h : x.eqb y = v) : (Op.equalIn 10000 56 (.agg #[.int .i64 x.kind, .int .u64 x.set.w0, .int .u64 x.set.w1, .int .u64 x.set.w2, .int .u64 x.set.w3, .int .i64 x.a, .int .i64 x.b, .bool x.neg]) (.agg #[.int .i64 y.kind, .int .u64 y.set.w0, .int .u64 y.set.w1, .int .u64 y.set.w2, .int .u64 y.set.w3, .int .i64 y.a, .int .i64 y.b, .bool y.neg])).run Try.prog w = .ok v w := ndEq w x y v h
theorem findN_le (ns : List Nd) (x : Nd) : findN ns x ≤ ns.length := List.findIdx_le_length
theorem findN_at {ns : List Nd} {x : Nd} (h : findN ns x < ns.length) : ndAt ns (findN ns x) = x := by
  rw [ndAt_lt h]
  have := @List.findIdx_getElem Nd (fun y => y.eqb x) ns h
  exact (Nd.eqb_iff _ _).1 this
theorem findN_not {ns : List Nd} {x : Nd} {t : Nat} (h : t < findN ns x) : (ndAt ns t).eqb x = false := by
  have hl := findN_le ns x
  rw [ndAt_lt (by omega)]
  have := List.not_of_lt_findIdx h
  simpa using this
theorem findN_is {ns : List Nd} {x : Nd} {t : Nat} (ht : t ≤ findN ns x) (hl : t < ns.length) (h : (ndAt ns t).eqb x = true) : findN ns x = t := by
  by_cases e : t = findN ns x
  · exact e.symm
  · have := findN_not (ns := ns) (x := x) (t := t) (by omega)
    rw [this] at h
    cases h
theorem put_at {ns : List Nd} {x : Nd} (hr : x.right ns.length = true) : findN ns x < (putS ns x).length ∧ ndAt (putS ns x) (findN ns x) = x := by
  unfold putS
  rw [if_pos hr]
  by_cases h : findN ns x < ns.length
  · rw [if_pos h]; exact ⟨h, findN_at h⟩
  · rw [if_neg h]
    have e : findN ns x = ns.length := by have := findN_le ns x; omega
    refine ⟨by rw [e, List.length_append]; simp, ?_⟩
    unfold ndAt
    rw [e, List.getElem?_append_right (Nat.le_refl _), Nat.sub_self]; rfl

-- the walk
theorem NdRow.off {w w' : World} {base : Nat} {v : Value} {l : List Nd} {F : Nat → Prop} (h : NdRow w base v l) (ho : OffF F w w') (hn : ∀ b, F b → v.ownBlock ≠ some b) : NdRow w' base v l := by
  obtain ⟨h1, h2⟩ := id h
  refine ⟨h1, ?_⟩
  rcases h2 with ⟨e, q⟩ | ⟨g, cap, cur, e, hb, hc, r⟩
  · exact Or.inl ⟨e, q⟩
  · refine Or.inr ⟨g, cap, cur, e, hb, ?_, r⟩
    have hlt := (World.ownsRow.lt h g (by rw [e]; rfl)).2
    exact (ho.block g hlt (fun q => hn g q (by rw [e]; rfl))).trans hc
section
variable {AA : World → Value → List Nd → (Nat → Prop) → Prop}

end

end Go.Proofs.Ytcghclikkeajfaa
