/- A list of patterns of the call's own that is appended to. No program is walked here. -/
import Derived.Test.YtignekgckkdgiaaProg
import Derived.Test.YtignekgckkdgiaaEach
import Derived.Test.YtignekgckkdgiaaTurned
import Derived.Laws.OwnMore
import Derived.Deep.AppendLies
import Derived.Deep.AppendSrc
namespace Go.Proofs.Ytignekgckkdgiaa
open Go.RowKit
set_option linter.unusedVariables false

/-- No block of a pattern (its node's own aside) is g. -/
def Tr.Off (g : Nat) : Nat → Tr → Prop
  | 0, _ => True
  | k + 1, t => (0 < t.n → ∀ b off, t.addr = some ⟨b, off, none⟩ → b ≠ g) ∧ ∀ p ∈ t.parts, Tr.Off g k p
theorem Tr.Off.from {g base : Nat} (hb : g < base) : ∀ (k : Nat) (t : Tr), Tr.From base k t → Tr.Off g k t
  | 0, _, _ => trivial
  | k + 1, t, h => ⟨fun h0 b off e => by have := h.1 h0 b off e; omega, fun p hp => Tr.Off.from hb k p (h.2 p hp)⟩
theorem Tr.Off.new {g : Nat} {w : World} (hg : w.heap.size ≤ g) : ∀ (k : Nat) (t : Tr), Tr.In w k t → Tr.Off g k t
  | 0, _, _ => trivial
  | k + 1, t, h => ⟨fun h0 b off e => by
      obtain ⟨b', off', e', hlt, _⟩ := h.2.2.1 h0
      rw [e] at e'
      injection e' with e'
      injection e' with e1
      omega, fun p hp => by
      obtain ⟨j, hj, rfl⟩ := List.getElem_of_mem hp
      exact Tr.Off.new hg k _ (h.2.2.2 j hj)⟩
theorem Tr.In.grown {w w' : World} {row : Option Nat} (hg : w.grownBy w' row) : ∀ (k : Nat) (t : Tr), (∀ g, row = some g → Tr.Off g k t) → Tr.In w k t → Tr.In w' k t
  | 0, _, _, h => h.elim
  | k + 1, t, hf, h => by
    obtain ⟨h0, hn, hc, hp⟩ := h
    refine ⟨h0, hn, fun h0 => ?_, fun j hj => Tr.In.grown hg k _ (fun g e => (hf g e).2 _ (List.getElem_mem hj)) (hp j hj)⟩
    obtain ⟨b, off, e, hlt, hr⟩ := hc h0
    have hb : some b ≠ row := fun q => (hf b q.symm).1 h0 b off e rfl
    exact ⟨b, off, e, Nat.lt_of_lt_of_le hlt hg.size, fun j hj i v hv => by
      have := hr j hj i v hv
      unfold World.cell? at this ⊢
      rw [hg.block b hlt hb]; exact this⟩
structure PartsOf (w : World) (base : Nat) (v : Value) (L : List Tr) (k : Nat) : Prop where
  own : w.ownsRow base 27 9 v L.length (L.flatMap Tr.cs)
  ins : ∀ p ∈ L, Tr.In w k p ∧ Tr.From base k p ∧ ∀ g, v.ownBlock = some g → Tr.Off g k p
section
variable {w w' : World} {base k : Nat} {v : Value} {L : List Tr}
theorem PartsOf.nil (w : World) (base k : Nat) : PartsOf w base (.slice none 0 0) [] k := ⟨World.ownsRow_nil w base _ 9, fun p hp => by cases hp⟩
theorem PartsOf.next (h : PartsOf w base v L k) (hb : Below w.heap.size w w') : PartsOf w' base v L k :=
  ⟨World.ownsRow.kept (row := none) h.own (grown_none hb) (by cases hv : v.ownBlock <;> simp), fun p hp => ⟨(h.ins p hp).1.next hb, (h.ins p hp).2⟩⟩
theorem Only.grown {g : Nat} (h : Only g w w') : w.grownBy w' (some g) := ⟨h.1, h.2.1, h.2.2.1, by rw [h.2.2.2.1]; exact Nat.le_refl _, fun i _ hi => h.2.2.2.2 i (fun e => hi (by rw [e]))⟩
theorem PartsOf.only {g : Nat} (h : PartsOf w base v L k) (ho : Only g w w') (hg : g < base) : PartsOf w' base v L k :=
  ⟨World.ownsRow.kept (row := some g) h.own ho.grown (by
    cases hv : v.ownBlock with
    | none => exact Or.inl rfl
    | some b => right; intro e; injection e with e; have := (h.own.lt b hv).1; omega), fun p hp => ⟨(h.ins p hp).1.only (h.ins p hp).2.1 ho hg, (h.ins p hp).2⟩⟩
theorem PartsOf.form (h : PartsOf w base v L k) : ∃ A c, v = .slice A L.length c ∧ (L.length = 0 → ¬ (∃ g, A = some g) → c = 0) := by
  rcases h.own.2 with ⟨rfl, hn⟩ | ⟨g, cap, cur, rfl, _⟩
  · exact ⟨none, 0, by rw [hn], fun _ _ => rfl⟩
  · exact ⟨_, _, rfl, fun _ q => absurd ⟨_, rfl⟩ q⟩
/-- One more behind. -/
theorem PartsOf.push {p : Tr} {g cap H : Nat} (h : PartsOf w base v L k) (hp : Tr.In w k p) (hf : Tr.From base k p) (hof : ∀ b, v.ownBlock = some b → Tr.Off b k p)
    (hown : w'.ownsRow base 27 9 (.slice (some ⟨g, 0, none⟩) (L.length + 1) cap) (L.length + 1) (L.flatMap Tr.cs ++ p.cs)) (hg : w.grownBy w' v.ownBlock) (hat : v.ownBlock = some g ∨ g = H) (hH : w.heap.size ≤ H) :
    PartsOf w' base (.slice (some ⟨g, 0, none⟩) (L.length + 1) cap) (L ++ [p]) k := by
  have key : ∀ q : Tr, Tr.In w k q → (∀ b, v.ownBlock = some b → Tr.Off b k q) → Tr.In w' k q ∧ ∀ b, (Value.slice (some ⟨g, 0, none⟩) (L.length + 1) cap).ownBlock = some b → Tr.Off b k q := fun q hi ho =>
    ⟨Tr.In.grown hg k q ho hi, fun b hb => by
      have e : g = b := by simpa [Value.ownBlock] using hb
      subst e
      rcases hat with hat | rfl
      · exact ho _ hat
      · exact Tr.Off.new hH k q hi⟩
  refine ⟨by rw [List.length_append, List.flatMap_append]; simpa using hown, fun q hq => ?_⟩
  rw [List.mem_append] at hq
  rcases hq with hq | hq
  · have hi := h.ins q hq
    obtain ⟨a, b⟩ := key q hi.1 hi.2.2
    exact ⟨a, hi.2.1, b⟩
  · have e : q = p := by simpa using hq
    subst e
    obtain ⟨a, b⟩ := key q hp hof
    exact ⟨a, hf, b⟩
/-- One more ahead, in a new row. -/
theorem PartsOf.cons {p : Tr} {v0 : Value} {g cap H : Nat} (h : PartsOf w base v L k) (hp : Tr.In w k p) (hf : Tr.From base k p) (h0 : ∀ b, v0.ownBlock = some b → Tr.Off b k p ∧ ∀ q ∈ L, Tr.Off b k q)
    (hown : w'.ownsRow base 27 9 (.slice (some ⟨g, 0, none⟩) (L.length + 1) cap) (L.length + 1) (p.cs ++ L.flatMap Tr.cs)) (hg : w.grownBy w' v0.ownBlock) (hat : v0.ownBlock = some g ∨ g = H) (hH : w.heap.size ≤ H) :
    PartsOf w' base (.slice (some ⟨g, 0, none⟩) (L.length + 1) cap) (p :: L) k := by
  have key : ∀ q : Tr, Tr.In w k q → (∀ b, v0.ownBlock = some b → Tr.Off b k q) → Tr.In w' k q ∧ ∀ b, (Value.slice (some ⟨g, 0, none⟩) (L.length + 1) cap).ownBlock = some b → Tr.Off b k q := fun q hi ho =>
    ⟨Tr.In.grown hg k q ho hi, fun b hb => by
      have e : g = b := by simpa [Value.ownBlock] using hb
      subst e
      rcases hat with hat | rfl
      · exact ho _ hat
      · exact Tr.Off.new hH k q hi⟩
  refine ⟨by simpa using hown, fun q hq => ?_⟩
  rcases List.mem_cons.1 hq with rfl | hq
  · obtain ⟨a, b⟩ := key q hp (fun b hb => (h0 b hb).1)
    exact ⟨a, hf, b⟩
  · have hi := h.ins q hq
    obtain ⟨a, b⟩ := key q hi.1 (fun b hb => (h0 b hb).2 q hq)
    exact ⟨a, hi.2.1, b⟩
theorem flat_length (L : List Tr) : (L.flatMap Tr.cs).length = L.length * 9 := by
  induction L with
  | nil => rfl
  | cons t r ih => rw [List.flatMap_cons, List.length_append, ih, Tr.cs_length, List.length_cons]; omega
theorem flat_at (L : List Tr) : ∀ (j i : Nat) (h : j < L.length), i < 9 → (L.flatMap Tr.cs)[j * 9 + i]? = L[j].cs[i]? := by
  induction L with
  | nil => intro j i h; exact absurd h (Nat.not_lt_zero _)
  | cons t r ih =>
    intro j i h hi
    rw [List.flatMap_cons]
    cases j with
    | zero => rw [Nat.zero_mul, Nat.zero_add, List.getElem?_append_left (by rw [Tr.cs_length]; exact hi)]; rfl
    | succ j =>
      rw [List.getElem?_append_right (by rw [Tr.cs_length]; omega), Tr.cs_length, show (j + 1) * 9 + i - 9 = j * 9 + i by omega, ih j i (by simpa using h) hi]
      rfl
theorem flat_one (L : List Tr) : ∀ u ∈ L.flatMap Tr.cs, u.oneCell' = true := by
  intro u hu
  rw [List.mem_flatMap] at hu
  obtain ⟨t, _, hu⟩ := hu
  have := Tr.one t
  rw [Array.all_eq_true_iff_forall_mem] at this
  exact this u (by simpa using hu)
/-- Such a list is a row of new patterns. -/
theorem PartsOf.row {S : Nat → Tr → Tr} {parts : List Tr} {A : Option Addr} {c : Nat} (h : PartsOf w base (.slice A L.length c) L k) (hl : L.map (Tr.strip k) = parts.map (S k)) :
    ∃ ps : Nat → Tr, (List.range L.length).map ps = L ∧ (0 < L.length → ∃ g, A = some ⟨g, 0, none⟩ ∧ base ≤ g ∧ g < w.heap.size ∧ ∀ j (hj : j < L.length), w.rangeAt g (j * 9) (ps j).cs) := by
  refine ⟨fun j => (L[j]?).getD Tr.blank, ?_, fun h0 => ?_⟩
  · apply List.ext_getElem
    · simp
    · intro j h1 h2
      simp only [List.getElem_map, List.getElem_range, List.getElem?_eq_getElem h2, Option.getD_some]
  · obtain ⟨g, cap, e, hb, hlt⟩ := h.own.form h0
    injection e with e1 _ e3
    subst e1
    subst e3
    refine ⟨g, rfl, hb, hlt, fun j hj i v hv => ?_⟩
    have hi : i < 9 := by have := (List.getElem?_eq_some_iff.1 hv).1; rwa [Tr.cs_length] at this
    rw [World.ownsRow.cellAt h.own _ (by omega), flat_at L j i hj hi]
    have hv' : ((L[j]?).getD Tr.blank).cs[i]? = some v := hv
    rw [List.getElem?_eq_getElem hj] at hv'
    exact hv'
end
/-- The new node over a list that was appended to. -/
theorem listed_in {S : Nat → Tr → Tr} {w' : World} {B k c : Nat} {A : Option Addr} {parts L : List Tr} {kd lo hi : Int} {set : St} {neg : Bool} (hset : set.Ok) (hkd : I64 kd) (hlo : I64 lo) (hhi : I64 hi)
    (hn2 : L.length ≤ 2000) (h : PartsOf w' B (.slice A L.length c) L k) (hl : L.map (Tr.strip k) = parts.map (S k)) :
    Tr.In w' (k + 1) (.node kd set A L.length c L lo hi neg) ∧ Tr.From B (k + 1) (.node kd set A L.length c L lo hi neg) ∧
      (Tr.node kd set A L.length c L lo hi neg).strip (k + 1) = .node kd set none parts.length 0 (parts.map (S k)) lo hi neg := by
  have hlen : L.length = parts.length := by have := congrArg List.length hl; simpa using this
  obtain ⟨ps, e1, e2⟩ := h.row hl
  refine ⟨⟨⟨hset, hkd, hlo, hhi⟩, ⟨rfl, by show L.length ≤ _; omega⟩, fun h0 => ?_, fun j hj => (h.ins _ (List.getElem_mem hj)).1⟩, ⟨fun h0 b off e => ?_, fun p hp => (h.ins p hp).2.1⟩, ?_⟩
  · obtain ⟨g, e, hb, hlt, hr⟩ := e2 h0
    refine ⟨g, 0, e, hlt, fun j hj => ?_⟩
    have hj' : j < L.length := hj
    have := hr j hj'
    have ep : ps j = L[j] := by
      have h1 : ((List.range L.length).map ps)[j]? = L[j]? := by rw [e1]
      rw [List.getElem?_map, List.getElem?_range hj', List.getElem?_eq_getElem hj'] at h1
      simpa using h1
    rw [ep] at this
    show w'.rangeAt g (0 + j * 9) (L[j]'hj).cs
    rw [Nat.zero_add]; exact this
  · obtain ⟨g, e', hb, _⟩ := e2 h0
    have e3 : A = some ⟨b, off, none⟩ := e
    rw [e3] at e'
    injection e' with e'
    injection e' with e4
    omega
  · show Tr.node kd set none L.length 0 (L.map (Tr.strip k)) lo hi neg = _
    rw [hl, hlen]

theorem run_slice_tr (p : Tr) (w : World) : (Instr.buildSlice 25 1 #[(0, .agg p.cs.toArray)]).run Try.prog w = .ok (.slice (some ⟨w.heap.size, 0, none⟩) 1 1) (w.alloc (.cells p.cs.toArray 27)) := by kernel_rfl
section
variable {ops : Array Oper} {rest : List Oper} {o : Oper} {a : Act} {w : World} {Q : Exit → Act → World → Prop}
theorem wpList_slice_tr (hg : o.guard = none) (x : Operand) (p : Tr) (ho : o.op = .buildSlice 25 1 #[(0, x)]) (hx : a.eval x = .agg p.cs.toArray)
    (h : wpList Try.prog ops Q rest (a.put o.dst (.slice (some ⟨w.heap.size, 0, none⟩) 1 1)) (w.alloc (.cells p.cs.toArray 27))) : wpList Try.prog ops Q (o :: rest) a w :=
  wpList_plain hg fun K hK => by
    have hr : (execOp a.eval o).run Try.prog w = .ok (.value (.slice (some ⟨w.heap.size, 0, none⟩) 1 1)) (w.alloc (.cells p.cs.toArray 27)) := by
      unfold execOp
      simp only [ho, List.map_toArray, List.map_cons, List.map_nil, hx, Sem.run_bind, run_slice_tr, Result.andThen_ok, Sem.run_pure]
    unfold Oper.wp
    rw [hr]
    exact hK _ _ h
theorem wpList_append_run (hg : o.guard = none) (s x : Operand) (t : TypeId) (ho : o.op = .call { callee := .builtin .append, args := #[s, x], argTypes := #[t, t] }) (v1 v2 v : Value) (w' : World) (hs : a.eval s = v1) (hx : a.eval x = v2)
    (hrun : (Builtin.append_ #[t, t] o.type #[v1, v2]).run Try.prog w = .ok v w') (h : wpList Try.prog ops Q rest (a.put o.dst v) w') : wpList Try.prog ops Q (o :: rest) a w :=
  wpList_plain hg fun K hK => by
    have hr : (execOp a.eval o).run Try.prog w = .ok (.value v) w' := by
      unfold execOp
      simp only [ho, resolve, invoke, builtin, Sem.run_bind, Sem.run_pure, Result.andThen_ok, List.map_toArray, List.map_cons, List.map_nil, hs, hx, hrun]
    unfold Oper.wp
    rw [hr]
    exact hK _ _ h
theorem run_append_none (g : Nat) (ty : TypeId) (w : World) : (Builtin.append_ #[25, 25] ty #[.slice (some ⟨g, 0, none⟩) 1 1, .slice none 0 0]).run Try.prog w = .ok (.slice (some ⟨g, 0, none⟩) 1 1) w := by
  obtain ⟨i, hi, h0, h1, h2⟩ := info_parts info_re
  exact run_append_room_src w 25 25 ty 27 i Try.underlying25 hi g 0 1 1 (.slice none 0 0) 0 [] (Src.ofNil w Try.underlying25 0) (by omega) (by simp) (by simp)
end
theorem set5 (t : Tr) (v v' : Value) : (t.cs.toArray.setIfInBounds 5 v).setIfInBounds 5 v' = t.cs.toArray.setIfInBounds 5 v' := rfl

end Go.Proofs.Ytignekgckkdgiaa
