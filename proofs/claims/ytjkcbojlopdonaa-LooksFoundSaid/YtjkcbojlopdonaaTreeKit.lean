/- A kit for patterns in memory: lists of patterns that are made, filled and appended to; gathered out of XSpansAt, XEach, XTurned, XParts for programs that lack those functions. -/
import Derived.Test.YtjkcbojlopdonaaMab
import Derived.Test.YtjkcbojlopdonaaProg
import Derived.Test.YtjkcbojlopdonaaMad
import Derived.Test.YtjkcbojlopdonaaMae
import Derived.Test.YtjkcbojlopdonaaRefSame
import Derived.Laws.MakeOwn
import Derived.Laws.OwnMore
import Derived.Deep.AppendLies
import Derived.Deep.AppendSrc
namespace Go.Proofs.Ytjkcbojlopdonaa
open Go.RowKit
set_option linter.unusedSimpArgs false
set_option linter.unusedVariables false

theorem info_re : (Try.prog.info? 35).map (fun i => (i.zero, i.size, i.bytes)) = some (some (.agg Tr.blank.cs.toArray), 9, 88) := by kernel_rfl
theorem make_re (n : Nat) (hn : n ≤ 1000000) (w : World) : (Instr.makeSlice 22 (.int .i64 (n : Int)) (.int .i64 (n : Int))).run Try.prog w = .ok (.slice (some ⟨w.heap.size, 0, none⟩) n n) (w.alloc (.cells (madeCells Tr.blank.cs.toArray (n * 9)) 35)) := by
  obtain ⟨i, hi, h0, h1, h2⟩ := info_parts info_re
  have h := run_make (P := Try.prog) w 22 35 i _ Try.underlying22 hi h0 .i64 .i64 (n : Int) (n : Int) (by omega) (Int.le_refl _) (by rw [h2]; omega) (by omega)
  rw [h1] at h
  simpa [Value.cells] using h
theorem made_row (w : World) (n : Nat) : RowTr (w.alloc (.cells (madeCells Tr.blank.cs.toArray (n * 9)) 35)) w.heap.size n (fun _ => Tr.blank) := by
  have hA := At.new w 35 (madeCells Tr.blank.cs.toArray (n * 9))
  have hget : ∀ j i, j < n → i < 9 → (madeCells Tr.blank.cs.toArray (n * 9))[j * 9 + i]? = Tr.blank.cs[i]? := by
    intro j i hj hi
    unfold madeCells
    rw [Array.getElem?_map, Array.getElem?_range, if_pos (by omega)]
    have h9 : Tr.blank.cs.toArray.size = 9 := rfl
    rw [Option.map_some, h9, show (j * 9 + i) % 9 = i by omega, List.getElem?_eq_getElem (by rw [Tr.cs_length]; exact hi)]
    congr 1
    rw [getElem!_pos Tr.blank.cs.toArray i (by rw [h9]; exact hi)]
    simp
  refine ⟨fun j hj i v hv => ?_, fun j hj i hi => ⟨?_, hA.free _⟩⟩
  · have hi : i < 9 := by have := (List.getElem?_eq_some_iff.1 hv).1; rwa [Tr.cs_length] at this
    rw [hA.cell, hget j i hj hi]; exact hv
  · rw [hA.cell, hget j i hj hi, List.getElem?_eq_getElem (by rw [Tr.cs_length]; exact hi)]; rfl
/-- What such a function answers: a pattern of its own, that is S of what it got. -/
def Made (S : Nat → Tr → Tr) (k : Nat) (t : Tr) (w : World) (e : Ending) (w' : World) : Prop := ∃ t2 : Tr, e = .returned (.agg t2.cs.toArray) ∧ Tr.In w' k t2 ∧ Tr.From w.heap.size k t2 ∧ t2.strip k = S k t ∧ Below w.heap.size w w'
/-- The new list. -/
def RowOf (S : Nat → Tr → Tr) (w' : World) (B k n : Nat) (A : Option Addr) (parts : List Tr) (ps : Nat → Tr) : Prop :=
  0 < n → ∃ g, A = some ⟨g, 0, none⟩ ∧ B ≤ g ∧ g < w'.heap.size ∧ RowTr w' g n ps ∧ ∀ (p : Nat) (h : p < parts.length), Tr.In w' k (ps p) ∧ Tr.From (g + 1) k (ps p) ∧ (ps p).strip k = S k parts[p]
def putW (w : World) (g j : Nat) (t : Tr) : World := w.setCells g (j * 9) t.cs.toArray.toList
theorem putW_row {w : World} {g n j : Nat} {f : Nat → Tr} (h : RowTr w g n f) (hj : j < n) (t : Tr) : RowTr (putW w g j t) g n (fun p => if p = j then t else f p) := h.put hj t
theorem putW_only (w : World) (g j : Nat) (t : Tr) : Only g w (putW w g j t) := (Only.refl g w).cells _ _
theorem RowOf.only {S : Nat → Tr → Tr} {w w' : World} {B k n g0 : Nat} {A : Option Addr} {parts : List Tr} {ps : Nat → Tr} (h : RowOf S w B k n A parts ps) (ho : Only g0 w w') (hg : g0 < B) : RowOf S w' B k n A parts ps := fun h0 => by
  obtain ⟨g, e, hb, hlt, hr, hp⟩ := h h0
  have hne : g ≠ g0 := by omega
  refine ⟨g, e, hb, by rw [ho.2.2.2.1]; exact hlt, ⟨fun j hj i v hv => ?_, fun j hj i hi => ?_⟩, fun p hpp => ⟨(hp p hpp).1.only (hp p hpp).2.1 ho (by omega), (hp p hpp).2⟩⟩
  · have := hr.at_ j hj i v hv
    unfold World.cell? at this ⊢
    rw [ho.2.2.2.2 g hne]; exact this
  · have := hr.there j hj i hi
    unfold World.cell? World.frozen? at this ⊢
    rw [ho.2.2.2.2 g hne]; exact this
theorem Only.cell {g : Nat} {w w' : World} (h : Only g w w') (o : Nat) (v : Value) : Only g w (w'.setCell ⟨g, o, none⟩ v) := h.cells o [v]
theorem RowOf.low {S : Nat → Tr → Tr} {w : World} {B B' k n : Nat} {A : Option Addr} {parts : List Tr} {ps : Nat → Tr} (h : RowOf S w B k n A parts ps) (hb : B' ≤ B) : RowOf S w B' k n A parts ps := fun h0 => by
  obtain ⟨g, e, hb', r⟩ := h h0
  exact ⟨g, e, Nat.le_trans hb hb', r⟩
/-- The new node over a new list. -/
theorem made_in {S : Nat → Tr → Tr} {w' : World} {B k n c : Nat} {A : Option Addr} {parts : List Tr} {ps : Nat → Tr} {kd lo hi : Int} {set : St} {neg : Bool} (hset : set.Ok) (hkd : I64 kd) (hlo : I64 lo) (hhi : I64 hi)
    (hn : n = parts.length) (hn2 : n ≤ 2000) (h : RowOf S w' B k n A parts ps) :
    Tr.In w' (k + 1) (.node kd set A n c ((List.range n).map ps) lo hi neg) ∧ Tr.From B (k + 1) (.node kd set A n c ((List.range n).map ps) lo hi neg) ∧
      (Tr.node kd set A n c ((List.range n).map ps) lo hi neg).strip (k + 1) = .node kd set none n 0 (parts.map (S k)) lo hi neg := by
  refine ⟨⟨⟨hset, hkd, hlo, hhi⟩, ⟨by show n = ((List.range n).map ps).length; simp, by show n ≤ _; omega⟩, fun h0 => ?_, fun j hj => ?_⟩, ⟨fun h0 b off e => ?_, fun p hp => ?_⟩, ?_⟩
  · obtain ⟨g, e, hb, hlt, hr, hp⟩ := h h0
    refine ⟨g, 0, e, hlt, fun j hj => ?_⟩
    have hj' : j < n := by have : j < ((List.range n).map ps).length := hj; simpa using this
    have e1 := map_range_at ps n j hj
    show w'.rangeAt g (0 + j * 9) (((List.range n).map ps)[j]'hj).cs
    rw [e1, Nat.zero_add]
    exact hr.at_ j hj'
  · have hj' : j < n := by have : j < ((List.range n).map ps).length := hj; simpa using this
    obtain ⟨g, e, hb, hlt, hr, hp⟩ := h (by omega)
    have e1 := map_range_at ps n j hj
    show Tr.In w' k (((List.range n).map ps)[j]'hj)
    rw [e1]
    exact (hp j (by omega)).1
  · obtain ⟨g, e', hb, _⟩ := h h0
    have e2 : A = some ⟨b, off, none⟩ := e
    rw [e2] at e'
    injection e' with e'
    injection e' with e1
    omega
  · have hp' : p ∈ (List.range n).map ps := hp
    rw [List.mem_map] at hp'
    obtain ⟨j, hj, rfl⟩ := hp'
    have hj' := List.mem_range.1 hj
    obtain ⟨g, e, hb, hlt, hr, hq⟩ := h (by omega)
    exact (hq j (by omega)).2.1.lower (by omega)
  · show Tr.node kd set none ((List.range n).map ps).length 0 (((List.range n).map ps).map (Tr.strip k)) lo hi neg = _
    rw [List.length_map, List.length_range]
    congr 1
    apply List.ext_getElem
    · simp; omega
    · intro j h1 h2
      have hj : j < n := by simpa using h1
      obtain ⟨g, e, hb, hlt, hr, hq⟩ := h (by omega)
      simp only [List.getElem_map, List.getElem_range]
      exact (hq j (by omega)).2.2
theorem Only.row (g : Nat) (w : World) (cs : Array Value) : Only g w (w.setRow g cs) := ⟨rfl, rfl, rfl, setRow_size w g cs, fun k hk => setRow_other w g k cs hk⟩
/-- No block of a pattern (its node's own aside) is g. -/
def Tr.Off (g : Nat) : Nat → Tr → Prop
  | 0, _ => True
  | k + 1, t => (0 < t.n → ∀ b off, t.addr = some ⟨b, off, none⟩ → b ≠ g) ∧ ∀ p ∈ t.parts, Tr.Off g k p
theorem Tr.Off.from {g base : Nat} (hb : g < base) : ∀ (k : Nat) (t : Tr), Tr.From base k t → Tr.Off g k t
  | 0, _, _ => trivial
  | k + 1, t, h => ⟨fun h0 b off e => by have := h.1 h0 b off e; omega, fun p hp => Tr.Off.from hb k p (h.2 p hp)⟩
theorem Tr.Off.new {g : Nat} {w : World} (hg : w.heap.size ≤ g) : ∀ (k : Nat) (t : Tr), Tr.In w k t → Tr.Off g k t
  | 0, _, _ => trivial
  | k + 1, t, h => ⟨fun h0 b off e => by
      obtain ⟨b', off', e', hlt, _⟩ := h.2.2.1 h0
      rw [e] at e'
      injection e' with e'
      injection e' with e1
      omega, fun p hp => by
      obtain ⟨j, hj, rfl⟩ := List.getElem_of_mem hp
      exact Tr.Off.new hg k _ (h.2.2.2 j hj)⟩
theorem Tr.In.grown {w w' : World} {row : Option Nat} (hg : w.grownBy w' row) : ∀ (k : Nat) (t : Tr), (∀ g, row = some g → Tr.Off g k t) → Tr.In w k t → Tr.In w' k t
  | 0, _, _, h => h.elim
  | k + 1, t, hf, h => by
    obtain ⟨h0, hn, hc, hp⟩ := h
    refine ⟨h0, hn, fun h0 => ?_, fun j hj => Tr.In.grown hg k _ (fun g e => (hf g e).2 _ (List.getElem_mem hj)) (hp j hj)⟩
    obtain ⟨b, off, e, hlt, hr⟩ := hc h0
    have hb : some b ≠ row := fun q => (hf b q.symm).1 h0 b off e rfl
    exact ⟨b, off, e, Nat.lt_of_lt_of_le hlt hg.size, fun j hj i v hv => by
      have := hr j hj i v hv
      unfold World.cell? at this ⊢
      rw [hg.block b hlt hb]; exact this⟩
structure PartsOf (w : World) (base : Nat) (v : Value) (L : List Tr) (k : Nat) : Prop where
  own : w.ownsRow base 35 9 v L.length (L.flatMap Tr.cs)
  ins : ∀ p ∈ L, Tr.In w k p ∧ Tr.From base k p ∧ ∀ g, v.ownBlock = some g → Tr.Off g k p
section
variable {w w' : World} {base k : Nat} {v : Value} {L : List Tr}
theorem PartsOf.nil (w : World) (base k : Nat) : PartsOf w base (.slice none 0 0) [] k := ⟨World.ownsRow_nil w base _ 9, fun p hp => by cases hp⟩
theorem PartsOf.next (h : PartsOf w base v L k) (hb : Below w.heap.size w w') : PartsOf w' base v L k :=
  ⟨World.ownsRow.kept (row := none) h.own (grown_none hb) (by cases hv : v.ownBlock <;> simp), fun p hp => ⟨(h.ins p hp).1.next hb, (h.ins p hp).2⟩⟩
theorem Only.grown {g : Nat} (h : Only g w w') : w.grownBy w' (some g) := ⟨h.1, h.2.1, h.2.2.1, by rw [h.2.2.2.1]; exact Nat.le_refl _, fun i _ hi => h.2.2.2.2 i (fun e => hi (by rw [e]))⟩
theorem PartsOf.only {g : Nat} (h : PartsOf w base v L k) (ho : Only g w w') (hg : g < base) : PartsOf w' base v L k :=
  ⟨World.ownsRow.kept (row := some g) h.own ho.grown (by
    cases hv : v.ownBlock with
    | none => exact Or.inl rfl
    | some b => right; intro e; injection e with e; have := (h.own.lt b hv).1; omega), fun p hp => ⟨(h.ins p hp).1.only (h.ins p hp).2.1 ho hg, (h.ins p hp).2⟩⟩
theorem PartsOf.form (h : PartsOf w base v L k) : ∃ A c, v = .slice A L.length c ∧ (L.length = 0 → ¬ (∃ g, A = some g) → c = 0) := by
  rcases h.own.2 with ⟨rfl, hn⟩ | ⟨g, cap, cur, rfl, _⟩
  · exact ⟨none, 0, by rw [hn], fun _ _ => rfl⟩
  · exact ⟨_, _, rfl, fun _ q => absurd ⟨_, rfl⟩ q⟩
/-- One more behind. -/
theorem PartsOf.push {p : Tr} {g cap H : Nat} (h : PartsOf w base v L k) (hp : Tr.In w k p) (hf : Tr.From base k p) (hof : ∀ b, v.ownBlock = some b → Tr.Off b k p)
    (hown : w'.ownsRow base 35 9 (.slice (some ⟨g, 0, none⟩) (L.length + 1) cap) (L.length + 1) (L.flatMap Tr.cs ++ p.cs)) (hg : w.grownBy w' v.ownBlock) (hat : v.ownBlock = some g ∨ g = H) (hH : w.heap.size ≤ H) :
    PartsOf w' base (.slice (some ⟨g, 0, none⟩) (L.length + 1) cap) (L ++ [p]) k := by
  have key : ∀ q : Tr, Tr.In w k q → (∀ b, v.ownBlock = some b → Tr.Off b k q) → Tr.In w' k q ∧ ∀ b, (Value.slice (some ⟨g, 0, none⟩) (L.length + 1) cap).ownBlock = some b → Tr.Off b k q := fun q hi ho =>
    ⟨Tr.In.grown hg k q ho hi, fun b hb => by
      have e : g = b := by simpa [Value.ownBlock] using hb
      subst e
      rcases hat with hat | rfl
      · exact ho _ hat
      · exact Tr.Off.new hH k q hi⟩
  refine ⟨by rw [List.length_append, List.flatMap_append]; simpa using hown, fun q hq => ?_⟩
  rw [List.mem_append] at hq
  rcases hq with hq | hq
  · have hi := h.ins q hq
    obtain ⟨a, b⟩ := key q hi.1 hi.2.2
    exact ⟨a, hi.2.1, b⟩
  · have e : q = p := by simpa using hq
    subst e
    obtain ⟨a, b⟩ := key q hp hof
    exact ⟨a, hf, b⟩
/-- One more ahead, in a new row. -/
theorem PartsOf.cons {p : Tr} {v0 : Value} {g cap H : Nat} (h : PartsOf w base v L k) (hp : Tr.In w k p) (hf : Tr.From base k p) (h0 : ∀ b, v0.ownBlock = some b → Tr.Off b k p ∧ ∀ q ∈ L, Tr.Off b k q)
    (hown : w'.ownsRow base 35 9 (.slice (some ⟨g, 0, none⟩) (L.length + 1) cap) (L.length + 1) (p.cs ++ L.flatMap Tr.cs)) (hg : w.grownBy w' v0.ownBlock) (hat : v0.ownBlock = some g ∨ g = H) (hH : w.heap.size ≤ H) :
    PartsOf w' base (.slice (some ⟨g, 0, none⟩) (L.length + 1) cap) (p :: L) k := by
  have key : ∀ q : Tr, Tr.In w k q → (∀ b, v0.ownBlock = some b → Tr.Off b k q) → Tr.In w' k q ∧ ∀ b, (Value.slice (some ⟨g, 0, none⟩) (L.length + 1) cap).ownBlock = some b → Tr.Off b k q := fun q hi ho =>
    ⟨Tr.In.grown hg k q ho hi, fun b hb => by
      have e : g = b := by simpa [Value.ownBlock] using hb
      subst e
      rcases hat with hat | rfl
      · exact ho _ hat
      · exact Tr.Off.new hH k q hi⟩
  refine ⟨by simpa using hown, fun q hq => ?_⟩
  rcases List.mem_cons.1 hq with rfl | hq
  · obtain ⟨a, b⟩ := key q hp (fun b hb => (h0 b hb).1)
    exact ⟨a, hf, b⟩
  · have hi := h.ins q hq
    obtain ⟨a, b⟩ := key q hi.1 (fun b hb => (h0 b hb).2 q hq)
    exact ⟨a, hi.2.1, b⟩
theorem flat_at (L : List Tr) : ∀ (j i : Nat) (h : j < L.length), i < 9 → (L.flatMap Tr.cs)[j * 9 + i]? = L[j].cs[i]? := by
  induction L with
  | nil => intro j i h; exact absurd h (Nat.not_lt_zero _)
  | cons t r ih =>
    intro j i h hi
    rw [List.flatMap_cons]
    cases j with
    | zero => rw [Nat.zero_mul, Nat.zero_add, List.getElem?_append_left (by rw [Tr.cs_length]; exact hi)]; rfl
    | succ j =>
      rw [List.getElem?_append_right (by rw [Tr.cs_length]; omega), Tr.cs_length, show (j + 1) * 9 + i - 9 = j * 9 + i by omega, ih j i (by simpa using h) hi]
      rfl
/-- Such a list is a row of new patterns. -/
theorem PartsOf.row {S : Nat → Tr → Tr} {parts : List Tr} {A : Option Addr} {c : Nat} (h : PartsOf w base (.slice A L.length c) L k) (hl : L.map (Tr.strip k) = parts.map (S k)) :
    ∃ ps : Nat → Tr, (List.range L.length).map ps = L ∧ (0 < L.length → ∃ g, A = some ⟨g, 0, none⟩ ∧ base ≤ g ∧ g < w.heap.size ∧ ∀ j (hj : j < L.length), w.rangeAt g (j * 9) (ps j).cs) := by
  refine ⟨fun j => (L[j]?).getD Tr.blank, ?_, fun h0 => ?_⟩
  · apply List.ext_getElem
    · simp
    · intro j h1 h2
      simp only [List.getElem_map, List.getElem_range, List.getElem?_eq_getElem h2, Option.getD_some]
  · obtain ⟨g, cap, e, hb, hlt⟩ := h.own.form h0
    injection e with e1 _ e3
    subst e1
    subst e3
    refine ⟨g, rfl, hb, hlt, fun j hj i v hv => ?_⟩
    have hi : i < 9 := by have := (List.getElem?_eq_some_iff.1 hv).1; rwa [Tr.cs_length] at this
    rw [World.ownsRow.cellAt h.own _ (by omega), flat_at L j i hj hi]
    have hv' : ((L[j]?).getD Tr.blank).cs[i]? = some v := hv
    rw [List.getElem?_eq_getElem hj] at hv'
    exact hv'
end
theorem run_slice_tr (p : Tr) (w : World) : (Instr.buildSlice 22 1 #[(0, .agg p.cs.toArray)]).run Try.prog w = .ok (.slice (some ⟨w.heap.size, 0, none⟩) 1 1) (w.alloc (.cells p.cs.toArray 35)) := by kernel_rfl
section
variable {ops : Array Oper} {rest : List Oper} {o : Oper} {a : Act} {w : World} {Q : Exit → Act → World → Prop}
theorem wpList_slice_tr (hg : o.guard = none) (x : Operand) (p : Tr) (ho : o.op = .buildSlice 22 1 #[(0, x)]) (hx : a.eval x = .agg p.cs.toArray)
    (h : wpList Try.prog ops Q rest (a.put o.dst (.slice (some ⟨w.heap.size, 0, none⟩) 1 1)) (w.alloc (.cells p.cs.toArray 35))) : wpList Try.prog ops Q (o :: rest) a w :=
  wpList_plain hg fun K hK => by
    have hr : (execOp a.eval o).run Try.prog w = .ok (.value (.slice (some ⟨w.heap.size, 0, none⟩) 1 1)) (w.alloc (.cells p.cs.toArray 35)) := by
      unfold execOp
      simp only [ho, List.map_toArray, List.map_cons, List.map_nil, hx, Sem.run_bind, run_slice_tr, Result.andThen_ok, Sem.run_pure]
    unfold Oper.wp
    rw [hr]
    exact hK _ _ h
end
end Go.Proofs.Ytjkcbojlopdonaa
