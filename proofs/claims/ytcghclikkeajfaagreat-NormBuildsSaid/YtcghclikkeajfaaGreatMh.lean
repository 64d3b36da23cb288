/- Joined: ArenaMid, ArenaBigIs, ArenaMapIs. -/
import Derived.Test.YtcghclikkeajfaaGreatMe
import Derived.Test.YtcghclikkeajfaaGreatMN
/- What an arena does that nodes are put together by: without New; and one whose map stays in its block. -/
namespace Go.Proofs.YtcghclikkeajfaaGreat
open Go.RowKit
set_option linter.unusedVariables false

structure ArenaMid (AA : World → Value → List Nd → (Nat → Prop) → Prop) : Prop where
  low : ∀ {w : World} {a : Value} {ns : List Nd} {F : Nat → Prop}, AA w a ns F → ∀ b, F b → b < w.heap.size
  keep : ∀ {w w' : World} {a : Value} {ns : List Nd} {F : Nat → Prop}, AA w a ns F → (∀ b, F b → w'.heap[b]? = w.heap[b]?) → AA w' a ns F
  fine : ∀ {w : World} {a : Value} {ns : List Nd} {F : Nat → Prop}, AA w a ns F → FineN ns
  max : ∀ {w : World} {a : Value} {ns : List Nd} {F : Nat → Prop}, AA w a ns F → ns.length ≤ 20000
  ptr : ∀ {w : World} {a : Value} {ns : List Nd} {F : Nat → Prop}, AA w a ns F → ∃ g, a = .pointer (some ⟨g, 0, none⟩)
  put : ∀ {w : World} {a : Value} {ns : List Nd} {F : Nat → Prop} (x : Nd), AA w a ns F → NdFit x → ns.length < 20000 → Calls Tryz.prog 61 #[a, .agg x.cs.toArray] w fun e w' => ∃ F', e = .returned (.tuple #[.int .i64 (putId ns x), .int .i64 (putE ns x)]) ∧ AA w' a (putS ns x) F' ∧ (∀ b, F' b → F b ∨ w.heap.size ≤ b) ∧ OffF F w w'
  putNo : ∀ {w : World} {a : Value} {ns : List Nd} {F : Nat → Prop} (x : Nd), AA w a ns F → NdFit x → x.right ns.length = false → Calls Tryz.prog 61 #[a, .agg x.cs.toArray] w fun e w' => e = .returned (.tuple #[.int .i64 0, .int .i64 1]) ∧ Below w.heap.size w w'
  len : ∀ {w : World} {a : Value} {ns : List Nd} {F : Nat → Prop}, AA w a ns F → Calls Tryz.prog 11 #[a] w fun e w' => e = .returned (.int .i64 ns.length) ∧ w' = w
  node : ∀ {w : World} {a : Value} {ns : List Nd} {F : Nat → Prop} (i : Int), AA w a ns F → I64 i → Calls Tryz.prog 36 #[a, .int .i64 i] w fun e w' => ∃ y : Nd, e = .returned (.tuple #[.agg y.cs.toArray, .bool (decide (0 ≤ i ∧ i < ns.length))]) ∧ (0 ≤ i ∧ i < ns.length → y = ndAt ns i.toNat) ∧ Below w.heap.size w w' ∧ (¬ (0 ≤ i ∧ i < ns.length) → y = Nd.zero)
/-- Of nodes that are there already: the block that is no row of cells is the same, whatever is put. -/
structure ArenaMap (AA : World → Value → List Nd → (Nat → Prop) → Prop) : Prop extends ArenaMid AA where
  part : ∀ {w : World} {a : Value} {ns : List Nd} {F : Nat → Prop}, AA w a ns F → 0 < ns.length → ∃ (AB : World → Value → List Nd → (Nat → Prop) → Prop) (m : Nat), ArenaMid AB ∧ AB w a ns F ∧ m < w.heap.size ∧ (∀ {w : World} {a : Value} {ns : List Nd} {F : Nat → Prop}, AB w a ns F → AA w a ns F) ∧ (∀ {w : World} {a : Value} {ns : List Nd} {F : Nat → Prop} {b : Nat} {o : Obj}, AB w a ns F → F b → w.heap[b]? = some o → (∀ cs t p, o ≠ .cells cs t p) → b = m)
section
variable {AA : World → Value → List Nd → (Nat → Prop) → Prop}
theorem ArenaMid.next (S : ArenaMid AA) {w w' : World} {a : Value} {ns : List Nd} {F : Nat → Prop} (h : AA w a ns F) (hb : Below w.heap.size w w') : AA w' a ns F := S.keep h (fun b q => hb.block b (S.low h b q))
theorem ArenaMid.nodeIn (S : ArenaMid AA) {w : World} {a : Value} {ns : List Nd} {F : Nat → Prop} (i : Int) (h : AA w a ns F) (hi : I64 i) : Calls Tryz.prog 36 #[a, .int .i64 i] w fun e w' => ∃ y : Nd, e = .returned (.tuple #[.agg y.cs.toArray, .bool (decide (0 ≤ i ∧ i < ns.length))]) ∧ (0 ≤ i ∧ i < ns.length → y = ndAt ns i.toNat) ∧ Below w.heap.size w w' :=
  (S.node i h hi).mono (fun _ _ ⟨y, h1, h2, h3, _⟩ => ⟨y, h1, h2, h3⟩)
end

end Go.Proofs.YtcghclikkeajfaaGreat

/- The code's arena does what others build on. -/
namespace Go.Proofs.YtcghclikkeajfaaGreat
open Go.RowKit
theorem arenaBig : ArenaBig AA where
  low := AA.low
  keep := AA.keep
  fine := AA.fine
  max := fun h => by obtain ⟨g, m, v, h⟩ := h; exact h.max
  ptr := fun h => by obtain ⟨g, m, v, h⟩ := h; exact ⟨g, h.ptr⟩
  new := aNew
  put := fun x h hx hn => aPut x h hx hn
  len := fun h => (aLen h).mono (by rintro e w1 ⟨rfl, rfl⟩; exact ⟨rfl, 0, rfl⟩)
  node := fun i h hi => aNode i h hi

end Go.Proofs.YtcghclikkeajfaaGreat

/- The code's arena does what nodes are put together by. -/
namespace Go.Proofs.YtcghclikkeajfaaGreat
open Go.RowKit
set_option linter.unusedVariables false

theorem arenaMid : ArenaMid AA where
  low := AA.low
  keep := AA.keep
  fine := AA.fine
  max := fun h => by obtain ⟨g, m, v, h⟩ := h; exact h.max
  ptr := fun h => by obtain ⟨g, m, v, h⟩ := h; exact ⟨g, h.ptr⟩
  put := fun x h hx hn => aPut x h hx hn
  putNo := fun x h hx hr => by obtain ⟨g, m, v, h⟩ := h; exact aPutNo x h hx hr
  len := fun h => aLen h
  node := fun i h hi => aNodeZ i h hi
/-- An arena whose map is in block m. -/
def AM (m : Nat) (w : World) (a : Value) (ns : List Nd) (F : Nat → Prop) : Prop := ∃ g v, AT w a ns F g (some m) v
theorem AM.aa {m : Nat} {w : World} {a : Value} {ns : List Nd} {F : Nat → Prop} (h : AM m w a ns F) : AA w a ns F := by
  obtain ⟨g, v, h⟩ := h
  exact ⟨g, some m, v, h⟩
theorem midM (m : Nat) : ArenaMid (AM m) where
  low := fun h => h.aa.low
  keep := fun h hk => by
    obtain ⟨g, v, h⟩ := h
    exact ⟨g, v, h.keep hk⟩
  fine := fun h => h.aa.fine
  max := fun h => arenaMid.max h.aa
  ptr := fun h => arenaMid.ptr h.aa
  put := fun x h hx hn => by
    obtain ⟨g, v, h⟩ := h
    refine (aPutT x h hx hn).mono ?_
    rintro e w' ⟨F', h1, ⟨m', v', h2, h3⟩, h4⟩
    obtain rfl := h3 m rfl
    exact ⟨F', h1, ⟨g, v', h2⟩, h4⟩
  putNo := fun x h hx hr => by obtain ⟨g, v, h⟩ := h; exact aPutNo x h hx hr
  len := fun h => aLen h.aa
  node := fun i h hi => aNodeZ i h.aa hi
theorem arenaMap : ArenaMap AA where
  toArenaMid := arenaMid
  part := fun {w a ns F} h h0 => by
    obtain ⟨g, m, v, h⟩ := h
    rcases id h.ids with ⟨_, q⟩ | ⟨k, rfl, hk⟩
    · rw [q] at h0; exact absurd h0 (Nat.lt_irrefl _)
    · refine ⟨AM k, k, midM k, ⟨g, v, h⟩, hk.lt, fun h => h.aa, fun {w a ns F b o} h hb ho hn => ?_⟩
      obtain ⟨g, v, h⟩ := h
      rcases (h.own b).1 hb with rfl | q | q
      · have := h.box
        unfold At at this
        rw [this] at ho
        injection ho with ho
        exact absurd ho.symm (hn _ _ _)
      · injection q with q; exact q.symm
      · obtain ⟨_, r⟩ := id h.row
        rcases r with ⟨e, _⟩ | ⟨g', cap, cur, e, hbg, hc, _⟩
        · rw [e] at q; cases q
        · rw [e] at q
          injection q with q
          rw [← q, hc] at ho
          injection ho with ho
          exact absurd ho.symm (hn _ _ _)

end Go.Proofs.YtcghclikkeajfaaGreat
