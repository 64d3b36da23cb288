/- Joined: RowTr, BoxTr, TreeKit, Ins. -/
import Derived.Test.YtcghclikkeajfaaGreatMa
import Derived.Test.YtcghclikkeajfaaGreatMd
import Derived.Laws.AppendOwn
import Derived.Deep.MidRow
import Derived.Test.YtcghclikkeajfaaGreatProg
import Derived.Test.YtcghclikkeajfaaGreatMc
import Derived.Test.YtcghclikkeajfaaGreatRefSame
import Derived.Laws.MakeOwn
import Derived.Laws.OwnMore
import Derived.Deep.AppendLies
import Derived.Deep.AppendSrc
/- A row of patterns of the call's own: what lies where; what a store there leaves as it was; the steps of a statement whose order is open. No program is walked here. -/
namespace Go.Proofs.YtcghclikkeajfaaGreat
open Go.RowKit
set_option linter.unusedVariables false

/-- The patterns ps lie in block g from its beginning on, and may be written. -/
structure RowTr (w : World) (g : Nat) (n : Nat) (f : Nat → Tr) : Prop where
  at_ : ∀ j, j < n → w.rangeAt g (j * 9) (f j).cs
  there : ∀ j, j < n → w.there g (j * 9) 9
section
variable {w w' : World} {g n : Nat} {f : Nat → Tr}
theorem RowTr.below {B : Nat} (h : RowTr w g n f) (hb : Below B w w') (hg : g < B) : RowTr w' g n f :=
  ⟨fun j hj i v hv => ((bcell hb).1 g _ hg).trans (h.at_ j hj i v hv), fun j hj i hi => by
    have := h.there j hj i hi
    exact ⟨by rw [(bcell hb).1 g _ hg]; exact this.1, by rw [(bcell hb).2 g _ hg]; exact this.2⟩⟩
theorem RowTr.congr {f' : Nat → Tr} (h : RowTr w g n f) (e : ∀ j, j < n → f j = f' j) : RowTr w g n f' := ⟨fun j hj => by rw [← e j hj]; exact h.at_ j hj, h.there⟩
theorem RowTr.put (h : RowTr w g n f) {i : Nat} (hi : i < n) (t : Tr) : RowTr (w.setCells g (i * 9) t.cs) g n (fun j => if j = i then t else f j) :=
  ⟨fun j hj => by
    by_cases e : j = i
    · subst e
      rw [if_pos rfl]
      exact World.rangeAt_setCells_same _ _ _ _ (h.there j hj)
    · rw [if_neg e]
      exact World.rangeAt_setCells_apart (h.at_ j hj) _ _ _ (by right; rw [Tr.cs_length, Tr.cs_length]; omega),
   fun j hj => World.there_setCells (h.there j hj) _ _ _⟩
theorem RowTr.same (h : RowTr w g n f) (e : w'.heap = w.heap) : RowTr w' g n f :=
  ⟨fun j hj i v hv => by have := h.at_ j hj i v hv; unfold World.cell? at this ⊢; rw [e]; exact this, fun j hj i hi => by
    have := h.there j hj i hi
    unfold World.cell? World.frozen? at this ⊢; rw [e]; exact this⟩
theorem RowTr.drew (h : RowTr w g n f) : RowTr w.drew g n f := h.same (heap_drew w)
theorem RowTr.lt (h : RowTr w g n f) (hn : 0 < n) : g < w.heap.size := block_lt_of_cell (h.at_ 0 hn 0 _ rfl)
end
theorem setCells_size (b : Nat) : ∀ (vs : List Value) (o : Nat) (w : World), (w.setCells b o vs).heap.size = w.heap.size
  | [], _, _ => rfl
  | v :: r, o, w => (setCells_size b r (o + 1) _).trans (by simp [World.setCell])
theorem setCells_block (b k : Nat) (hk : k ≠ b) : ∀ (vs : List Value) (o : Nat) (w : World), (w.setCells b o vs).heap[k]? = w.heap[k]?
  | [], _, _ => rfl
  | v :: r, o, w => (setCells_block b k hk r (o + 1) _).trans (Below.heap_setCell w ⟨b, o, none⟩ v k hk)
theorem setCells_rest (b : Nat) : ∀ (vs : List Value) (o : Nat) (w : World), (w.setCells b o vs).os = w.os ∧ (w.setCells b o vs).tape = w.tape ∧ (w.setCells b o vs).output = w.output
  | [], _, _ => ⟨rfl, rfl, rfl⟩
  | v :: r, o, w => setCells_rest b r (o + 1) _
/-- Nothing but block g has turned. -/
def Only (g : Nat) (w w' : World) : Prop := w'.os = w.os ∧ w'.tape = w.tape ∧ w'.output = w.output ∧ w'.heap.size = w.heap.size ∧ ∀ k, k ≠ g → w'.heap[k]? = w.heap[k]?
theorem Only.refl (g : Nat) (w : World) : Only g w w := ⟨rfl, rfl, rfl, rfl, fun _ _ => rfl⟩
theorem Only.cells {g : Nat} {w w' : World} (h : Only g w w') (o : Nat) (vs : List Value) : Only g w (w'.setCells g o vs) := by
  obtain ⟨a, b, c⟩ := setCells_rest g vs o w'
  exact ⟨a.trans h.1, b.trans h.2.1, c.trans h.2.2.1, (setCells_size g vs o w').trans h.2.2.2.1, fun k hk => (setCells_block g k hk vs o w').trans (h.2.2.2.2 k hk)⟩
theorem Only.drew {g : Nat} {w w' : World} (h : Only g w w') : Only g w w'.drew := h
theorem Only.below {g B : Nat} {w w' : World} (h : Only g w w') (hB : B ≤ g) : Below B w w' := ⟨h.1, h.2.1, h.2.2.1, by rw [h.2.2.2.1]; exact Nat.le_refl _, fun k hk => h.2.2.2.2 k (by omega)⟩
theorem Only.at {g h : Nat} {w w' : World} {t : TypeId} {cs : Array Value} (ho : Only g w w') (ha : At w h t cs) (hne : h ≠ g) : At w' h t cs := (ho.2.2.2.2 h hne).trans ha
/-- All blocks of a pattern, its node's own aside, lie from base on. -/
def Tr.From (base : Nat) : Nat → Tr → Prop
  | 0, _ => True
  | k + 1, t => (0 < t.n → ∀ b off, t.addr = some ⟨b, off, none⟩ → base ≤ b) ∧ ∀ p ∈ t.parts, Tr.From base k p
theorem Tr.From.lower {base base' : Nat} (hb : base' ≤ base) : ∀ (k : Nat) (t : Tr), Tr.From base k t → Tr.From base' k t
  | 0, _, _ => trivial
  | k + 1, t, h => ⟨fun h0 b off e => Nat.le_trans hb (h.1 h0 b off e), fun p hp => Tr.From.lower hb k p (h.2 p hp)⟩
/-- A pattern stays where the blocks from base on are as they were. -/
theorem Tr.In.kept {base : Nat} {w w' : World} (hs : w.heap.size ≤ w'.heap.size) (hk : ∀ b, base ≤ b → b < w.heap.size → w'.heap[b]? = w.heap[b]?) : ∀ (k : Nat) (t : Tr), Tr.From base k t → Tr.In w k t → Tr.In w' k t
  | 0, _, _, h => h.elim
  | k + 1, t, hf, h => by
    obtain ⟨h0, hn, hc, hp⟩ := h
    refine ⟨h0, hn, fun h0 => ?_, fun j hj => Tr.In.kept hs hk k _ (hf.2 _ (List.getElem_mem hj)) (hp j hj)⟩
    obtain ⟨b, off, e, hlt, hr⟩ := hc h0
    have hb := hf.1 h0 b off e
    exact ⟨b, off, e, Nat.lt_of_lt_of_le hlt hs, fun j hj i v hv => by
      have := hr j hj i v hv
      unfold World.cell? at this ⊢
      rw [hk b hb hlt]; exact this⟩
theorem Tr.In.only {g base k : Nat} {w w' : World} {t : Tr} (h : Tr.In w k t) (hf : Tr.From base k t) (ho : Only g w w') (hg : g < base) : Tr.In w' k t :=
  Tr.In.kept (by rw [ho.2.2.2.1]; exact Nat.le_refl _) (fun b hb _ => ho.2.2.2.2 b (by omega)) k t hf h

/- Steps of a statement whose order is open: a whole struct out of, and into, the midst of a block. -/
section
variable {P : Program} {ops : Array Oper} {o : Oper} {a : Act} {w : World} {K : Act → World → Prop} {Q : Exit → Act → World → Prop} {E : Prop}
end

end Go.Proofs.YtcghclikkeajfaaGreat

/- A pattern that is laid into a variable of the call's own. -/
namespace Go.Proofs.YtcghclikkeajfaaGreat
open Go.RowKit

theorem Tr.one (t : Tr) : t.cs.toArray.all (·.oneCell') = true := by unfold Tr.cs; simp [Value.oneCell']
def boxW (w : World) (t : Tr) : World := (w.alloc (.cells Tr.blank.cs.toArray 27)).setRow w.heap.size t.cs.toArray
theorem boxW_at (w : World) (t : Tr) : At (boxW w t) w.heap.size 27 t.cs.toArray := At.row (At.new w 27 Tr.blank.cs.toArray) _
theorem boxW_below {w0 w : World} (h : Below w0.heap.size w0 w) (t : Tr) : Below w0.heap.size w0 (boxW w t) := below_row (h.alloc h.size _) h.size _
theorem boxW_next (w : World) (t : Tr) : Below w.heap.size w (boxW w t) := below_row ((Below.refl _ _).alloc (Nat.le_refl _) _) (Nat.le_refl _) _
theorem boxW_size (w : World) (t : Tr) : (boxW w t).heap.size = w.heap.size + 1 := by unfold boxW; simp
theorem negB_at {t : Tr} (h8 : ¬ t.kind = 8) (h9 : ¬ t.kind = 9) : decide (t.kind = 8 ∨ t.kind = 9 ∨ t.neg = false) = !t.neg := by cases t.neg <;> simp [h8, h9]

end Go.Proofs.YtcghclikkeajfaaGreat

/- A kit for patterns in memory: lists of patterns that are made, filled and appended to; gathered out of XSpansAt, XEach, XTurned, XParts for programs that lack those functions. -/
namespace Go.Proofs.YtcghclikkeajfaaGreat
open Go.RowKit
set_option linter.unusedSimpArgs false
set_option linter.unusedVariables false

theorem info_re : (Tryz.prog.info? 27).map (fun i => (i.zero, i.size, i.bytes)) = some (some (.agg Tr.blank.cs.toArray), 9, 88) := by kernel_rfl
theorem make_re (n : Nat) (hn : n ≤ 1000000) (w : World) : (Instr.makeSlice 25 (.int .i64 (n : Int)) (.int .i64 (n : Int))).run Tryz.prog w = .ok (.slice (some ⟨w.heap.size, 0, none⟩) n n) (w.alloc (.cells (madeCells Tr.blank.cs.toArray (n * 9)) 27)) := by
  obtain ⟨i, hi, h0, h1, h2⟩ := info_parts info_re
  have h := run_make (P := Tryz.prog) w 25 27 i _ Tryz.underlying25 hi h0 .i64 .i64 (n : Int) (n : Int) (by omega) (Int.le_refl _) (by rw [h2]; omega) (by omega)
  rw [h1] at h
  simpa [Value.cells] using h
theorem made_row (w : World) (n : Nat) : RowTr (w.alloc (.cells (madeCells Tr.blank.cs.toArray (n * 9)) 27)) w.heap.size n (fun _ => Tr.blank) := by
  have hA := At.new w 27 (madeCells Tr.blank.cs.toArray (n * 9))
  have hget : ∀ j i, j < n → i < 9 → (madeCells Tr.blank.cs.toArray (n * 9))[j * 9 + i]? = Tr.blank.cs[i]? := by
    intro j i hj hi
    unfold madeCells
    rw [Array.getElem?_map, Array.getElem?_range, if_pos (by omega)]
    have h9 : Tr.blank.cs.toArray.size = 9 := rfl
    rw [Option.map_some, h9, show (j * 9 + i) % 9 = i by omega, List.getElem?_eq_getElem (by rw [Tr.cs_length]; exact hi)]
    congr 1
    rw [getElem!_pos Tr.blank.cs.toArray i (by rw [h9]; exact hi)]
    simp
  refine ⟨fun j hj i v hv => ?_, fun j hj i hi => ⟨?_, hA.free _⟩⟩
  · have hi : i < 9 := by have := (List.getElem?_eq_some_iff.1 hv).1; rwa [Tr.cs_length] at this
    rw [hA.cell, hget j i hj hi]; exact hv
  · rw [hA.cell, hget j i hj hi, List.getElem?_eq_getElem (by rw [Tr.cs_length]; exact hi)]; rfl
/-- What such a function answers: a pattern of its own, that is S of what it got. -/
def Made (S : Nat → Tr → Tr) (k : Nat) (t : Tr) (w : World) (e : Ending) (w' : World) : Prop := ∃ t2 : Tr, e = .returned (.agg t2.cs.toArray) ∧ Tr.In w' k t2 ∧ Tr.From w.heap.size k t2 ∧ t2.strip k = S k t ∧ Below w.heap.size w w'
/-- The new list. -/
def RowOf (S : Nat → Tr → Tr) (w' : World) (B k n : Nat) (A : Option Addr) (parts : List Tr) (ps : Nat → Tr) : Prop :=
  0 < n → ∃ g, A = some ⟨g, 0, none⟩ ∧ B ≤ g ∧ g < w'.heap.size ∧ RowTr w' g n ps ∧ ∀ (p : Nat) (h : p < parts.length), Tr.In w' k (ps p) ∧ Tr.From (g + 1) k (ps p) ∧ (ps p).strip k = S k parts[p]
def putW (w : World) (g j : Nat) (t : Tr) : World := w.setCells g (j * 9) t.cs.toArray.toList
theorem putW_row {w : World} {g n j : Nat} {f : Nat → Tr} (h : RowTr w g n f) (hj : j < n) (t : Tr) : RowTr (putW w g j t) g n (fun p => if p = j then t else f p) := h.put hj t
theorem putW_only (w : World) (g j : Nat) (t : Tr) : Only g w (putW w g j t) := (Only.refl g w).cells _ _
theorem RowOf.only {S : Nat → Tr → Tr} {w w' : World} {B k n g0 : Nat} {A : Option Addr} {parts : List Tr} {ps : Nat → Tr} (h : RowOf S w B k n A parts ps) (ho : Only g0 w w') (hg : g0 < B) : RowOf S w' B k n A parts ps := fun h0 => by
  obtain ⟨g, e, hb, hlt, hr, hp⟩ := h h0
  have hne : g ≠ g0 := by omega
  refine ⟨g, e, hb, by rw [ho.2.2.2.1]; exact hlt, ⟨fun j hj i v hv => ?_, fun j hj i hi => ?_⟩, fun p hpp => ⟨(hp p hpp).1.only (hp p hpp).2.1 ho (by omega), (hp p hpp).2⟩⟩
  · have := hr.at_ j hj i v hv
    unfold World.cell? at this ⊢
    rw [ho.2.2.2.2 g hne]; exact this
  · have := hr.there j hj i hi
    unfold World.cell? World.frozen? at this ⊢
    rw [ho.2.2.2.2 g hne]; exact this
theorem Only.cell {g : Nat} {w w' : World} (h : Only g w w') (o : Nat) (v : Value) : Only g w (w'.setCell ⟨g, o, none⟩ v) := h.cells o [v]
theorem RowOf.low {S : Nat → Tr → Tr} {w : World} {B B' k n : Nat} {A : Option Addr} {parts : List Tr} {ps : Nat → Tr} (h : RowOf S w B k n A parts ps) (hb : B' ≤ B) : RowOf S w B' k n A parts ps := fun h0 => by
  obtain ⟨g, e, hb', r⟩ := h h0
  exact ⟨g, e, Nat.le_trans hb hb', r⟩
/-- The new node over a new list. -/
theorem made_in {S : Nat → Tr → Tr} {w' : World} {B k n c : Nat} {A : Option Addr} {parts : List Tr} {ps : Nat → Tr} {kd lo hi : Int} {set : St} {neg : Bool} (hset : set.Ok) (hkd : I64 kd) (hlo : I64 lo) (hhi : I64 hi)
    (hn : n = parts.length) (hn2 : n ≤ 2000) (h : RowOf S w' B k n A parts ps) :
    Tr.In w' (k + 1) (.node kd set A n c ((List.range n).map ps) lo hi neg) ∧ Tr.From B (k + 1) (.node kd set A n c ((List.range n).map ps) lo hi neg) ∧
      (Tr.node kd set A n c ((List.range n).map ps) lo hi neg).strip (k + 1) = .node kd set none n 0 (parts.map (S k)) lo hi neg := by
  refine ⟨⟨⟨hset, hkd, hlo, hhi⟩, ⟨by show n = ((List.range n).map ps).length; simp, by show n ≤ _; omega⟩, fun h0 => ?_, fun j hj => ?_⟩, ⟨fun h0 b off e => ?_, fun p hp => ?_⟩, ?_⟩
  · obtain ⟨g, e, hb, hlt, hr, hp⟩ := h h0
    refine ⟨g, 0, e, hlt, fun j hj => ?_⟩
    have hj' : j < n := by have : j < ((List.range n).map ps).length := hj; simpa using this
    have e1 := map_range_at ps n j hj
    show w'.rangeAt g (0 + j * 9) (((List.range n).map ps)[j]'hj).cs
    rw [e1, Nat.zero_add]
    exact hr.at_ j hj'
  · have hj' : j < n := by have : j < ((List.range n).map ps).length := hj; simpa using this
    obtain ⟨g, e, hb, hlt, hr, hp⟩ := h (by omega)
    have e1 := map_range_at ps n j hj
    show Tr.In w' k (((List.range n).map ps)[j]'hj)
    rw [e1]
    exact (hp j (by omega)).1
  · obtain ⟨g, e', hb, _⟩ := h h0
    have e2 : A = some ⟨b, off, none⟩ := e
    rw [e2] at e'
    injection e' with e'
    injection e' with e1
    omega
  · have hp' : p ∈ (List.range n).map ps := hp
    rw [List.mem_map] at hp'
    obtain ⟨j, hj, rfl⟩ := hp'
    have hj' := List.mem_range.1 hj
    obtain ⟨g, e, hb, hlt, hr, hq⟩ := h (by omega)
    exact (hq j (by omega)).2.1.lower (by omega)
  · show Tr.node kd set none ((List.range n).map ps).length 0 (((List.range n).map ps).map (Tr.strip k)) lo hi neg = _
    rw [List.length_map, List.length_range]
    congr 1
    apply List.ext_getElem
    · simp; omega
    · intro j h1 h2
      have hj : j < n := by simpa using h1
      obtain ⟨g, e, hb, hlt, hr, hq⟩ := h (by omega)
      simp only [List.getElem_map, List.getElem_range]
      exact (hq j (by omega)).2.2
theorem Only.row (g : Nat) (w : World) (cs : Array Value) : Only g w (w.setRow g cs) := ⟨rfl, rfl, rfl, setRow_size w g cs, fun k hk => setRow_other w g k cs hk⟩
/-- No block of a pattern (its node's own aside) is g. -/
def Tr.Off (g : Nat) : Nat → Tr → Prop
  | 0, _ => True
  | k + 1, t => (0 < t.n → ∀ b off, t.addr = some ⟨b, off, none⟩ → b ≠ g) ∧ ∀ p ∈ t.parts, Tr.Off g k p
theorem Tr.Off.from {g base : Nat} (hb : g < base) : ∀ (k : Nat) (t : Tr), Tr.From base k t → Tr.Off g k t
  | 0, _, _ => trivial
  | k + 1, t, h => ⟨fun h0 b off e => by have := h.1 h0 b off e; omega, fun p hp => Tr.Off.from hb k p (h.2 p hp)⟩
theorem Tr.Off.new {g : Nat} {w : World} (hg : w.heap.size ≤ g) : ∀ (k : Nat) (t : Tr), Tr.In w k t → Tr.Off g k t
  | 0, _, _ => trivial
  | k + 1, t, h => ⟨fun h0 b off e => by
      obtain ⟨b', off', e', hlt, _⟩ := h.2.2.1 h0
      rw [e] at e'
      injection e' with e'
      injection e' with e1
      omega, fun p hp => by
      obtain ⟨j, hj, rfl⟩ := List.getElem_of_mem hp
      exact Tr.Off.new hg k _ (h.2.2.2 j hj)⟩
theorem Tr.In.grown {w w' : World} {row : Option Nat} (hg : w.grownBy w' row) : ∀ (k : Nat) (t : Tr), (∀ g, row = some g → Tr.Off g k t) → Tr.In w k t → Tr.In w' k t
  | 0, _, _, h => h.elim
  | k + 1, t, hf, h => by
    obtain ⟨h0, hn, hc, hp⟩ := h
    refine ⟨h0, hn, fun h0 => ?_, fun j hj => Tr.In.grown hg k _ (fun g e => (hf g e).2 _ (List.getElem_mem hj)) (hp j hj)⟩
    obtain ⟨b, off, e, hlt, hr⟩ := hc h0
    have hb : some b ≠ row := fun q => (hf b q.symm).1 h0 b off e rfl
    exact ⟨b, off, e, Nat.lt_of_lt_of_le hlt hg.size, fun j hj i v hv => by
      have := hr j hj i v hv
      unfold World.cell? at this ⊢
      rw [hg.block b hlt hb]; exact this⟩
structure PartsOf (w : World) (base : Nat) (v : Value) (L : List Tr) (k : Nat) : Prop where
  own : w.ownsRow base 27 9 v L.length (L.flatMap Tr.cs)
  ins : ∀ p ∈ L, Tr.In w k p ∧ Tr.From base k p ∧ ∀ g, v.ownBlock = some g → Tr.Off g k p
section
variable {w w' : World} {base k : Nat} {v : Value} {L : List Tr}
theorem PartsOf.nil (w : World) (base k : Nat) : PartsOf w base (.slice none 0 0) [] k := ⟨World.ownsRow_nil w base _ 9, fun p hp => by cases hp⟩
theorem PartsOf.next (h : PartsOf w base v L k) (hb : Below w.heap.size w w') : PartsOf w' base v L k :=
  ⟨World.ownsRow.kept (row := none) h.own (grown_none hb) (by cases hv : v.ownBlock <;> simp), fun p hp => ⟨(h.ins p hp).1.next hb, (h.ins p hp).2⟩⟩
theorem Only.grown {g : Nat} (h : Only g w w') : w.grownBy w' (some g) := ⟨h.1, h.2.1, h.2.2.1, by rw [h.2.2.2.1]; exact Nat.le_refl _, fun i _ hi => h.2.2.2.2 i (fun e => hi (by rw [e]))⟩
theorem PartsOf.only {g : Nat} (h : PartsOf w base v L k) (ho : Only g w w') (hg : g < base) : PartsOf w' base v L k :=
  ⟨World.ownsRow.kept (row := some g) h.own ho.grown (by
    cases hv : v.ownBlock with
    | none => exact Or.inl rfl
    | some b => right; intro e; injection e with e; have := (h.own.lt b hv).1; omega), fun p hp => ⟨(h.ins p hp).1.only (h.ins p hp).2.1 ho hg, (h.ins p hp).2⟩⟩
theorem PartsOf.form (h : PartsOf w base v L k) : ∃ A c, v = .slice A L.length c ∧ (L.length = 0 → ¬ (∃ g, A = some g) → c = 0) := by
  rcases h.own.2 with ⟨rfl, hn⟩ | ⟨g, cap, cur, rfl, _⟩
  · exact ⟨none, 0, by rw [hn], fun _ _ => rfl⟩
  · exact ⟨_, _, rfl, fun _ q => absurd ⟨_, rfl⟩ q⟩
/-- One more behind. -/
theorem PartsOf.push {p : Tr} {g cap H : Nat} (h : PartsOf w base v L k) (hp : Tr.In w k p) (hf : Tr.From base k p) (hof : ∀ b, v.ownBlock = some b → Tr.Off b k p)
    (hown : w'.ownsRow base 27 9 (.slice (some ⟨g, 0, none⟩) (L.length + 1) cap) (L.length + 1) (L.flatMap Tr.cs ++ p.cs)) (hg : w.grownBy w' v.ownBlock) (hat : v.ownBlock = some g ∨ g = H) (hH : w.heap.size ≤ H) :
    PartsOf w' base (.slice (some ⟨g, 0, none⟩) (L.length + 1) cap) (L ++ [p]) k := by
  have key : ∀ q : Tr, Tr.In w k q → (∀ b, v.ownBlock = some b → Tr.Off b k q) → Tr.In w' k q ∧ ∀ b, (Value.slice (some ⟨g, 0, none⟩) (L.length + 1) cap).ownBlock = some b → Tr.Off b k q := fun q hi ho =>
    ⟨Tr.In.grown hg k q ho hi, fun b hb => by
      have e : g = b := by simpa [Value.ownBlock] using hb
      subst e
      rcases hat with hat | rfl
      · exact ho _ hat
      · exact Tr.Off.new hH k q hi⟩
  refine ⟨by rw [List.length_append, List.flatMap_append]; simpa using hown, fun q hq => ?_⟩
  rw [List.mem_append] at hq
  rcases hq with hq | hq
  · have hi := h.ins q hq
    obtain ⟨a, b⟩ := key q hi.1 hi.2.2
    exact ⟨a, hi.2.1, b⟩
  · have e : q = p := by simpa using hq
    subst e
    obtain ⟨a, b⟩ := key q hp hof
    exact ⟨a, hf, b⟩
/-- One more ahead, in a new row. -/
theorem PartsOf.cons {p : Tr} {v0 : Value} {g cap H : Nat} (h : PartsOf w base v L k) (hp : Tr.In w k p) (hf : Tr.From base k p) (h0 : ∀ b, v0.ownBlock = some b → Tr.Off b k p ∧ ∀ q ∈ L, Tr.Off b k q)
    (hown : w'.ownsRow base 27 9 (.slice (some ⟨g, 0, none⟩) (L.length + 1) cap) (L.length + 1) (p.cs ++ L.flatMap Tr.cs)) (hg : w.grownBy w' v0.ownBlock) (hat : v0.ownBlock = some g ∨ g = H) (hH : w.heap.size ≤ H) :
    PartsOf w' base (.slice (some ⟨g, 0, none⟩) (L.length + 1) cap) (p :: L) k := by
  have key : ∀ q : Tr, Tr.In w k q → (∀ b, v0.ownBlock = some b → Tr.Off b k q) → Tr.In w' k q ∧ ∀ b, (Value.slice (some ⟨g, 0, none⟩) (L.length + 1) cap).ownBlock = some b → Tr.Off b k q := fun q hi ho =>
    ⟨Tr.In.grown hg k q ho hi, fun b hb => by
      have e : g = b := by simpa [Value.ownBlock] using hb
      subst e
      rcases hat with hat | rfl
      · exact ho _ hat
      · exact Tr.Off.new hH k q hi⟩
  refine ⟨by simpa using hown, fun q hq => ?_⟩
  rcases List.mem_cons.1 hq with rfl | hq
  · obtain ⟨a, b⟩ := key q hp (fun b hb => (h0 b hb).1)
    exact ⟨a, hf, b⟩
  · have hi := h.ins q hq
    obtain ⟨a, b⟩ := key q hi.1 (fun b hb => (h0 b hb).2 q hq)
    exact ⟨a, hi.2.1, b⟩
theorem flat_at (L : List Tr) : ∀ (j i : Nat) (h : j < L.length), i < 9 → (L.flatMap Tr.cs)[j * 9 + i]? = L[j].cs[i]? := by
  induction L with
  | nil => intro j i h; exact absurd h (Nat.not_lt_zero _)
  | cons t r ih =>
    intro j i h hi
    rw [List.flatMap_cons]
    cases j with
    | zero => rw [Nat.zero_mul, Nat.zero_add, List.getElem?_append_left (by rw [Tr.cs_length]; exact hi)]; rfl
    | succ j =>
      rw [List.getElem?_append_right (by rw [Tr.cs_length]; omega), Tr.cs_length, show (j + 1) * 9 + i - 9 = j * 9 + i by omega, ih j i (by simpa using h) hi]
      rfl
/-- Such a list is a row of new patterns. -/
theorem PartsOf.row {S : Nat → Tr → Tr} {parts : List Tr} {A : Option Addr} {c : Nat} (h : PartsOf w base (.slice A L.length c) L k) (hl : L.map (Tr.strip k) = parts.map (S k)) :
    ∃ ps : Nat → Tr, (List.range L.length).map ps = L ∧ (0 < L.length → ∃ g, A = some ⟨g, 0, none⟩ ∧ base ≤ g ∧ g < w.heap.size ∧ ∀ j (hj : j < L.length), w.rangeAt g (j * 9) (ps j).cs) := by
  refine ⟨fun j => (L[j]?).getD Tr.blank, ?_, fun h0 => ?_⟩
  · apply List.ext_getElem
    · simp
    · intro j h1 h2
      simp only [List.getElem_map, List.getElem_range, List.getElem?_eq_getElem h2, Option.getD_some]
  · obtain ⟨g, cap, e, hb, hlt⟩ := h.own.form h0
    injection e with e1 _ e3
    subst e1
    subst e3
    refine ⟨g, rfl, hb, hlt, fun j hj i v hv => ?_⟩
    have hi : i < 9 := by have := (List.getElem?_eq_some_iff.1 hv).1; rwa [Tr.cs_length] at this
    rw [World.ownsRow.cellAt h.own _ (by omega), flat_at L j i hj hi]
    have hv' : ((L[j]?).getD Tr.blank).cs[i]? = some v := hv
    rw [List.getElem?_eq_getElem hj] at hv'
    exact hv'
end
theorem run_slice_tr (p : Tr) (w : World) : (Instr.buildSlice 25 1 #[(0, .agg p.cs.toArray)]).run Tryz.prog w = .ok (.slice (some ⟨w.heap.size, 0, none⟩) 1 1) (w.alloc (.cells p.cs.toArray 27)) := by kernel_rfl
section
variable {ops : Array Oper} {rest : List Oper} {o : Oper} {a : Act} {w : World} {Q : Exit → Act → World → Prop}
theorem wpList_slice_tr (hg : o.guard = none) (x : Operand) (p : Tr) (ho : o.op = .buildSlice 25 1 #[(0, x)]) (hx : a.eval x = .agg p.cs.toArray)
    (h : wpList Tryz.prog ops Q rest (a.put o.dst (.slice (some ⟨w.heap.size, 0, none⟩) 1 1)) (w.alloc (.cells p.cs.toArray 27))) : wpList Tryz.prog ops Q (o :: rest) a w :=
  wpList_plain hg fun K hK => by
    have hr : (execOp a.eval o).run Tryz.prog w = .ok (.value (.slice (some ⟨w.heap.size, 0, none⟩) 1 1)) (w.alloc (.cells p.cs.toArray 27)) := by
      unfold execOp
      simp only [ho, List.map_toArray, List.map_cons, List.map_nil, hx, Sem.run_bind, run_slice_tr, Result.andThen_ok, Sem.run_pure]
    unfold Oper.wp
    rw [hr]
    exact hK _ _ h
end
end Go.Proofs.YtcghclikkeajfaaGreat

/- Trees as they lie, whose lists may be held against each other. No program is walked here. -/
namespace Go.Proofs.YtcghclikkeajfaaGreat
open Go.RowKit
set_option linter.unusedSimpArgs false
set_option linter.unusedVariables false

/- Trees. -/
theorem Tr.In.more {w : World} {t : Tr} {k : Nat} (h : Tr.In w k t) : ∀ d, Tr.In w (k + d) t
  | 0 => h
  | d + 1 => Tr.In.up _ _ (Tr.In.more h d)
theorem Tr.In.upto {w : World} {t : Tr} {k k' : Nat} (h : Tr.In w k t) (hk : k ≤ k') : Tr.In w k' t := by
  have := h.more (k' - k)
  rwa [show k + (k' - k) = k' by omega] at this
/-- No block of a tree lies from lo on and below hi. -/
def Tr.Out (lo hi : Nat) : Nat → Tr → Prop
  | 0, _ => True
  | k + 1, t => (0 < t.n → ∀ b off, t.addr = some ⟨b, off, none⟩ → b < lo ∨ hi ≤ b) ∧ ∀ p ∈ t.parts, Tr.Out lo hi k p
theorem Tr.Out.lower {lo hi hi' : Nat} (hh : hi' ≤ hi) : ∀ (k : Nat) (t : Tr), Tr.Out lo hi k t → Tr.Out lo hi' k t
  | 0, _, _ => trivial
  | k + 1, t, h => ⟨fun h0 b off e => (h.1 h0 b off e).imp id (fun q => Nat.le_trans hh q), fun p hp => Tr.Out.lower hh k p (h.2 p hp)⟩
theorem Tr.Out.off {lo hi b : Nat} (h1 : lo ≤ b) (h2 : b < hi) : ∀ (k : Nat) (t : Tr), Tr.Out lo hi k t → Tr.Off b k t
  | 0, _, _ => trivial
  | k + 1, t, h => ⟨fun h0 b' off e => by have := h.1 h0 b' off e; omega, fun p hp => Tr.Out.off h1 h2 k p (h.2 p hp)⟩
theorem Tr.Out.up {w : World} {lo hi : Nat} : ∀ (k : Nat) (t : Tr), Tr.In w k t → Tr.Out lo hi k t → Tr.Out lo hi (k + 1) t
  | 0, _, h, _ => h.elim
  | k + 1, t, h, o => ⟨o.1, fun p hp => by
      obtain ⟨j, hj, rfl⟩ := List.getElem_of_mem hp
      exact Tr.Out.up k _ (h.2.2.2 j hj) (o.2 _ hp)⟩
theorem Tr.Out.le {w : World} {lo hi k k' : Nat} {t : Tr} (h : Tr.In w k t) (o : Tr.Out lo hi k t) (hk : k ≤ k') : Tr.Out lo hi k' t := by
  obtain ⟨d, rfl⟩ : ∃ d, k' = k + d := ⟨k' - k, by omega⟩
  clear hk
  induction d with
  | zero => exact o
  | succ d ih => exact Tr.Out.up (k + d) t (h.more d) ih
theorem Tr.Off.up {w : World} {g : Nat} : ∀ (k : Nat) (t : Tr), Tr.In w k t → Tr.Off g k t → Tr.Off g (k + 1) t
  | 0, _, h, _ => h.elim
  | k + 1, t, h, o => ⟨o.1, fun p hp => by
      obtain ⟨j, hj, rfl⟩ := List.getElem_of_mem hp
      exact Tr.Off.up k _ (h.2.2.2 j hj) (o.2 _ hp)⟩
theorem Tr.Off.le {w : World} {g k k' : Nat} {t : Tr} (h : Tr.In w k t) (o : Tr.Off g k t) (hk : k ≤ k') : Tr.Off g k' t := by
  obtain ⟨d, rfl⟩ : ∃ d, k' = k + d := ⟨k' - k, by omega⟩
  clear hk
  induction d with
  | zero => exact o
  | succ d ih => exact Tr.Off.up (k + d) t (h.more d) ih
theorem Tr.In.out' {w : World} {lo : Nat} (hl : w.heap.size ≤ lo) (hi : Nat) : ∀ (k : Nat) (t : Tr), Tr.In w k t → Tr.Out lo hi k t
  | 0, _, _ => trivial
  | k + 1, t, h => ⟨fun h0 b off e => by
      obtain ⟨b', off', e', hlt, _⟩ := h.2.2.1 h0
      rw [e] at e'
      injection e' with e'
      injection e' with e1
      omega, fun p hp => by
      obtain ⟨j, hj, rfl⟩ := List.getElem_of_mem hp
      exact Tr.In.out' hl hi k _ (h.2.2.2 j hj)⟩
/-- The first place of each list may be held against another's. -/
def Tr.Sol (w : World) : Nat → Tr → Prop
  | 0, _ => True
  | k + 1, t => (0 < t.n → ∀ b off, t.addr = some ⟨b, off, none⟩ → w.frozen? ⟨b, off, none⟩ = false) ∧ ∀ p ∈ t.parts, Tr.Sol w k p
theorem Tr.Sol.grown {w w' : World} {row : Option Nat} (hg : w.grownBy w' row) : ∀ (k : Nat) (t : Tr), (∀ g, row = some g → Tr.Off g k t) → Tr.In w k t → Tr.Sol w k t → Tr.Sol w' k t
  | 0, _, _, _, _ => trivial
  | k + 1, t, hf, h, hs => ⟨fun h0 b off e => by
      obtain ⟨b', off', e', hlt, _⟩ := h.2.2.1 h0
      rw [e] at e'
      injection e' with e'
      injection e' with e1 e2
      subst e1; subst e2
      rw [World.frozen?_of_block (w := w) (hg.block b hlt (fun q => (hf b q.symm).1 h0 b off e rfl))]
      exact hs.1 h0 b off e, fun p hp => by
      obtain ⟨j, hj, rfl⟩ := List.getElem_of_mem hp
      exact Tr.Sol.grown hg k _ (fun g e => (hf g e).2 _ hp) (h.2.2.2 j hj) (hs.2 _ hp)⟩
theorem Tr.Sol.up {w : World} : ∀ (k : Nat) (t : Tr), Tr.In w k t → Tr.Sol w k t → Tr.Sol w (k + 1) t
  | 0, _, h, _ => h.elim
  | k + 1, t, h, o => ⟨o.1, fun p hp => by
      obtain ⟨j, hj, rfl⟩ := List.getElem_of_mem hp
      exact Tr.Sol.up k _ (h.2.2.2 j hj) (o.2 _ hp)⟩
/-- A tree lies in memory, and its lists may be held against each other. -/
def Tr.Ins (w : World) (k : Nat) (t : Tr) : Prop := Tr.In w k t ∧ Tr.Sol w k t
theorem Tr.Ins.grown {w w' : World} {row : Option Nat} (hg : w.grownBy w' row) (k : Nat) (t : Tr) (hf : ∀ g, row = some g → Tr.Off g k t) (h : Tr.Ins w k t) : Tr.Ins w' k t := ⟨Tr.In.grown hg k t hf h.1, Tr.Sol.grown hg k t hf h.1 h.2⟩
theorem Tr.Ins.next {w w' : World} {k : Nat} {t : Tr} (h : Tr.Ins w k t) (hb : Below w.heap.size w w') : Tr.Ins w' k t := Tr.Ins.grown (row := none) ⟨hb.os, hb.tape, hb.output, hb.size, fun i hi _ => hb.block i hi⟩ k t (fun g e => by cases e) h
theorem Tr.Ins.below {w w' : World} {B k : Nat} {t : Tr} (h : Tr.Ins w k t) (hB : w.heap.size ≤ B) (hb : Below B w w') : Tr.Ins w' k t := h.next (hb.mono hB)
theorem Tr.Ins.up {w : World} {k : Nat} {t : Tr} (h : Tr.Ins w k t) : Tr.Ins w (k + 1) t := ⟨Tr.In.up _ _ h.1, Tr.Sol.up _ _ h.1 h.2⟩
theorem Tr.Ins.upto {w : World} {t : Tr} {k k' : Nat} (h : Tr.Ins w k t) (hk : k ≤ k') : Tr.Ins w k' t := by
  obtain ⟨d, rfl⟩ : ∃ d, k' = k + d := ⟨k' - k, by omega⟩
  clear hk
  induction d with
  | zero => exact h
  | succ d ih => exact ih.up
/-- A tree lies in memory, its blocks out of [lo, hi); without its addresses it is T. -/
def Tr.Is (w : World) (lo hi : Nat) (t T : Tr) : Prop := ∃ k, Tr.Ins w k t ∧ Tr.Out lo hi k t ∧ ∀ k', k ≤ k' → t.strip k' = T
theorem Tr.Is.lower {w : World} {lo hi hi' : Nat} {t T : Tr} (h : Tr.Is w lo hi t T) (hh : hi' ≤ hi) : Tr.Is w lo hi' t T := by
  obtain ⟨k, h1, h2, h3⟩ := h
  exact ⟨k, h1, h2.lower hh, h3⟩
theorem Tr.Is.grown {w w' : World} {lo hi g : Nat} {t T : Tr} (h : Tr.Is w lo hi t T) (hg : w.grownBy w' (some g)) (h1 : lo ≤ g) (h2 : g < hi) : Tr.Is w' lo hi t T := by
  obtain ⟨k, i1, i2, i3⟩ := h
  exact ⟨k, Tr.Ins.grown hg k t (fun b e => by cases e; exact i2.off h1 h2) i1, i2, i3⟩
theorem Tr.Is.next {w w' : World} {lo hi : Nat} {t T : Tr} (h : Tr.Is w lo hi t T) (hb : Below w.heap.size w w') : Tr.Is w' lo hi t T := by
  obtain ⟨k, i1, i2, i3⟩ := h
  exact ⟨k, i1.next hb, i2, i3⟩
theorem Tr.Is.same {w w' : World} {lo hi : Nat} {t T : Tr} (h : Tr.Is w lo hi t T) (e : w'.heap = w.heap) (e1 : w'.os = w.os) (e2 : w'.tape = w.tape) (e3 : w'.output = w.output) : Tr.Is w' lo hi t T := by
  obtain ⟨k, i1, i2, i3⟩ := h
  exact ⟨k, Tr.Ins.next (w' := w') i1 ⟨e1, e2, e3, by rw [e]; exact Nat.le_refl _, fun q _ => by rw [e]⟩, i2, i3⟩
/-- A block that is new holds nothing of it. -/
theorem Tr.Is.wide {w : World} {lo hi hi' : Nat} {t T : Tr} (h : Tr.Is w lo hi t T) (hs : w.heap.size ≤ hi') : ∀ b, hi' ≤ b → ∃ k, Tr.Ins w k t ∧ Tr.Off b k t := fun b hb => by
  obtain ⟨k, i1, i2, i3⟩ := h
  exact ⟨k, i1, Tr.Off.new (by omega) k t i1.1⟩
theorem Tr.Is.kept {w w' : World} {lo hi g : Nat} {t T : Tr} (h : Tr.Is w lo hi t T) (hg : w.grownBy w' (some g)) (hs : w.heap.size ≤ g) : Tr.Is w' lo hi t T := by
  obtain ⟨k, i1, i2, i3⟩ := h
  exact ⟨k, Tr.Ins.grown hg k t (fun b e => by cases e; exact Tr.Off.new hs k t i1.1) i1, i2, i3⟩
theorem Tr.Off.down {g : Nat} : ∀ (k : Nat) (t : Tr), Tr.Off g (k + 1) t → Tr.Off g k t
  | 0, _, _ => trivial
  | k + 1, t, h => ⟨h.1, fun p hp => Tr.Off.down k p (h.2 p hp)⟩
theorem Tr.Off.any {w : World} {g k k' : Nat} {t : Tr} (h : Tr.In w k t) (o : Tr.Off g k t) : Tr.Off g k' t := by
  rcases Nat.le_total k k' with q | q
  · exact Tr.Off.le h o q
  · obtain ⟨d, rfl⟩ : ∃ d, k = k' + d := ⟨k - k', by omega⟩
    clear q h
    induction d with
    | zero => exact o
    | succ d ih => exact ih (Tr.Off.down (k' + d) t o)
/-- What is new is out of the tree. -/
theorem Tr.Is.new {w : World} {lo hi : Nat} {t T : Tr} (h : Tr.Is w lo hi t T) (lo2 hi2 : Nat) (hl : w.heap.size ≤ lo2) : Tr.Is w lo2 hi2 t T := by
  obtain ⟨k, i1, i2, i3⟩ := h
  refine ⟨k, i1, ?_, i3⟩
  have := Tr.In.out' hl hi2 k t i1.1
  exact this

theorem ownsRow_grown {w w' : World} {base : Nat} {e : TypeId} {size : Nat} {v : Value} {n : Nat} {xs : List Value} {g : Nat} (h : w.ownsRow base e size v n xs) (hg : w.grownBy w' (some g)) (hb : g < base) : w'.ownsRow base e size v n xs := by
  obtain ⟨h1, h2⟩ := h
  refine ⟨h1, ?_⟩
  rcases h2 with h2 | ⟨b, cap, cur, hv, hbb, hh, r⟩
  · exact Or.inl h2
  · refine Or.inr ⟨b, cap, cur, hv, hbb, ?_, r⟩
    have hlt : b < w.heap.size := by
      rcases Nat.lt_or_ge b w.heap.size with q | q
      · exact q
      · rw [Array.getElem?_eq_none q] at hh; cases hh
    rw [hg.block b hlt (fun e => by cases e; omega)]; exact hh

theorem grownBy_lo {w w' : World} {g : Nat} (h : w.grownBy w' (some g)) (hg : g ≤ w.heap.size) : Below g w w' := ⟨h.os, h.tape, h.output, h.size, fun k hk => h.block k (by omega) (fun e => by cases e; omega)⟩

end Go.Proofs.YtcghclikkeajfaaGreat
