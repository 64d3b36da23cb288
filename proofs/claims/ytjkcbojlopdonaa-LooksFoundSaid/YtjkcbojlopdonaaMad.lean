/- Joined: RowTr, BoxTr, Open, OpenSets. -/
import Derived.Test.YtjkcbojlopdonaaWords
import Derived.Test.YtjkcbojlopdonaaMaa
import Derived.Test.YtjkcbojlopdonaaTr
import Derived.Test.YtjkcbojlopdonaaMac
import Derived.Laws.AppendOwn
import Derived.Deep.MidRow
import Derived.Test.YtjkcbojlopdonaaProg
import Derived.Test.YtjkcbojlopdonaaMab
import Derived.ProofKit
import Derived.OpenShut
import Derived.Laws.IdiomArrays
import Derived.Deep.Slices
/- A row of patterns of the call's own: what lies where; what a store there leaves as it was; the steps of a statement whose order is open. No program is walked here. -/
namespace Go.Proofs.Ytjkcbojlopdonaa
open Go.RowKit
set_option linter.unusedVariables false

/-- The patterns ps lie in block g from its beginning on, and may be written. -/
structure RowTr (w : World) (g : Nat) (n : Nat) (f : Nat → Tr) : Prop where
  at_ : ∀ j, j < n → w.rangeAt g (j * 9) (f j).cs
  there : ∀ j, j < n → w.there g (j * 9) 9
section
variable {w w' : World} {g n : Nat} {f : Nat → Tr}
theorem RowTr.below {B : Nat} (h : RowTr w g n f) (hb : Below B w w') (hg : g < B) : RowTr w' g n f :=
  ⟨fun j hj i v hv => ((bcell hb).1 g _ hg).trans (h.at_ j hj i v hv), fun j hj i hi => by
    have := h.there j hj i hi
    exact ⟨by rw [(bcell hb).1 g _ hg]; exact this.1, by rw [(bcell hb).2 g _ hg]; exact this.2⟩⟩
theorem RowTr.congr {f' : Nat → Tr} (h : RowTr w g n f) (e : ∀ j, j < n → f j = f' j) : RowTr w g n f' := ⟨fun j hj => by rw [← e j hj]; exact h.at_ j hj, h.there⟩
theorem RowTr.put (h : RowTr w g n f) {i : Nat} (hi : i < n) (t : Tr) : RowTr (w.setCells g (i * 9) t.cs) g n (fun j => if j = i then t else f j) :=
  ⟨fun j hj => by
    by_cases e : j = i
    · subst e
      rw [if_pos rfl]
      exact World.rangeAt_setCells_same _ _ _ _ (h.there j hj)
    · rw [if_neg e]
      exact World.rangeAt_setCells_apart (h.at_ j hj) _ _ _ (by right; rw [Tr.cs_length, Tr.cs_length]; omega),
   fun j hj => World.there_setCells (h.there j hj) _ _ _⟩
theorem RowTr.same (h : RowTr w g n f) (e : w'.heap = w.heap) : RowTr w' g n f :=
  ⟨fun j hj i v hv => by have := h.at_ j hj i v hv; unfold World.cell? at this ⊢; rw [e]; exact this, fun j hj i hi => by
    have := h.there j hj i hi
    unfold World.cell? World.frozen? at this ⊢; rw [e]; exact this⟩
theorem RowTr.drew (h : RowTr w g n f) : RowTr w.drew g n f := h.same (heap_drew w)
theorem RowTr.lt (h : RowTr w g n f) (hn : 0 < n) : g < w.heap.size := block_lt_of_cell (h.at_ 0 hn 0 _ rfl)
end
theorem setCells_size (b : Nat) : ∀ (vs : List Value) (o : Nat) (w : World), (w.setCells b o vs).heap.size = w.heap.size
  | [], _, _ => rfl
  | v :: r, o, w => (setCells_size b r (o + 1) _).trans (by simp [World.setCell])
theorem setCells_block (b k : Nat) (hk : k ≠ b) : ∀ (vs : List Value) (o : Nat) (w : World), (w.setCells b o vs).heap[k]? = w.heap[k]?
  | [], _, _ => rfl
  | v :: r, o, w => (setCells_block b k hk r (o + 1) _).trans (Below.heap_setCell w ⟨b, o, none⟩ v k hk)
theorem setCells_rest (b : Nat) : ∀ (vs : List Value) (o : Nat) (w : World), (w.setCells b o vs).os = w.os ∧ (w.setCells b o vs).tape = w.tape ∧ (w.setCells b o vs).output = w.output
  | [], _, _ => ⟨rfl, rfl, rfl⟩
  | v :: r, o, w => setCells_rest b r (o + 1) _
/-- Nothing but block g has turned. -/
def Only (g : Nat) (w w' : World) : Prop := w'.os = w.os ∧ w'.tape = w.tape ∧ w'.output = w.output ∧ w'.heap.size = w.heap.size ∧ ∀ k, k ≠ g → w'.heap[k]? = w.heap[k]?
theorem Only.refl (g : Nat) (w : World) : Only g w w := ⟨rfl, rfl, rfl, rfl, fun _ _ => rfl⟩
theorem Only.cells {g : Nat} {w w' : World} (h : Only g w w') (o : Nat) (vs : List Value) : Only g w (w'.setCells g o vs) := by
  obtain ⟨a, b, c⟩ := setCells_rest g vs o w'
  exact ⟨a.trans h.1, b.trans h.2.1, c.trans h.2.2.1, (setCells_size g vs o w').trans h.2.2.2.1, fun k hk => (setCells_block g k hk vs o w').trans (h.2.2.2.2 k hk)⟩
theorem Only.drew {g : Nat} {w w' : World} (h : Only g w w') : Only g w w'.drew := h
theorem Only.below {g B : Nat} {w w' : World} (h : Only g w w') (hB : B ≤ g) : Below B w w' := ⟨h.1, h.2.1, h.2.2.1, by rw [h.2.2.2.1]; exact Nat.le_refl _, fun k hk => h.2.2.2.2 k (by omega)⟩
theorem Only.at {g h : Nat} {w w' : World} {t : TypeId} {cs : Array Value} (ho : Only g w w') (ha : At w h t cs) (hne : h ≠ g) : At w' h t cs := (ho.2.2.2.2 h hne).trans ha
/-- All blocks of a pattern, its node's own aside, lie from base on. -/
def Tr.From (base : Nat) : Nat → Tr → Prop
  | 0, _ => True
  | k + 1, t => (0 < t.n → ∀ b off, t.addr = some ⟨b, off, none⟩ → base ≤ b) ∧ ∀ p ∈ t.parts, Tr.From base k p
theorem Tr.From.lower {base base' : Nat} (hb : base' ≤ base) : ∀ (k : Nat) (t : Tr), Tr.From base k t → Tr.From base' k t
  | 0, _, _ => trivial
  | k + 1, t, h => ⟨fun h0 b off e => Nat.le_trans hb (h.1 h0 b off e), fun p hp => Tr.From.lower hb k p (h.2 p hp)⟩
/-- A pattern stays where the blocks from base on are as they were. -/
theorem Tr.In.kept {base : Nat} {w w' : World} (hs : w.heap.size ≤ w'.heap.size) (hk : ∀ b, base ≤ b → b < w.heap.size → w'.heap[b]? = w.heap[b]?) : ∀ (k : Nat) (t : Tr), Tr.From base k t → Tr.In w k t → Tr.In w' k t
  | 0, _, _, h => h.elim
  | k + 1, t, hf, h => by
    obtain ⟨h0, hn, hc, hp⟩ := h
    refine ⟨h0, hn, fun h0 => ?_, fun j hj => Tr.In.kept hs hk k _ (hf.2 _ (List.getElem_mem hj)) (hp j hj)⟩
    obtain ⟨b, off, e, hlt, hr⟩ := hc h0
    have hb := hf.1 h0 b off e
    exact ⟨b, off, e, Nat.lt_of_lt_of_le hlt hs, fun j hj i v hv => by
      have := hr j hj i v hv
      unfold World.cell? at this ⊢
      rw [hk b hb hlt]; exact this⟩
theorem Tr.In.only {g base k : Nat} {w w' : World} {t : Tr} (h : Tr.In w k t) (hf : Tr.From base k t) (ho : Only g w w') (hg : g < base) : Tr.In w' k t :=
  Tr.In.kept (by rw [ho.2.2.2.1]; exact Nat.le_refl _) (fun b hb _ => ho.2.2.2.2 b (by omega)) k t hf h

/- Steps of a statement whose order is open: a whole struct out of, and into, the midst of a block. -/
section
variable {P : Program} {ops : Array Oper} {o : Oper} {a : Act} {w : World} {K : Act → World → Prop} {Q : Exit → Act → World → Prop} {E : Prop}
theorem step_store_mid (hg : o.guard = none) (ty : TypeId) (x y : Operand) (ho : o.op = .store ty x y) (b off : Nat) (cells : Array Value) (hx : a.eval x = .pointer (some ⟨b, off, none⟩)) (hy : a.eval y = .agg cells)
    (ht : w.there b off cells.size) (hi : (P.info? ty).map (·.size) = some cells.size) (h1 : cells.all (·.oneCell') = true) (hK : K (a.put o.dst undef) (w.setCells b off cells.toList)) :
    if Region.wanted o (yielded ops a.tmps) = true then Oper.wp P o a w K Q else E := by
  rw [if_pos (by simp [Region.wanted, hg])]
  exact wp_store_mid ty x y ho b off cells hx hy ht hi h1 hK
end

end Go.Proofs.Ytjkcbojlopdonaa

/- A pattern that is laid into a variable of the call's own. -/
namespace Go.Proofs.Ytjkcbojlopdonaa
open Go.RowKit

theorem Tr.one (t : Tr) : t.cs.toArray.all (·.oneCell') = true := by unfold Tr.cs; simp [Value.oneCell']
def boxW (w : World) (t : Tr) : World := (w.alloc (.cells Tr.blank.cs.toArray 35)).setRow w.heap.size t.cs.toArray
theorem boxW_at (w : World) (t : Tr) : At (boxW w t) w.heap.size 35 t.cs.toArray := At.row (At.new w 35 Tr.blank.cs.toArray) _
theorem boxW_below {w0 w : World} (h : Below w0.heap.size w0 w) (t : Tr) : Below w0.heap.size w0 (boxW w t) := below_row (h.alloc h.size _) h.size _
theorem boxW_next (w : World) (t : Tr) : Below w.heap.size w (boxW w t) := below_row ((Below.refl _ _).alloc (Nat.le_refl _) _) (Nat.le_refl _) _
theorem boxW_size (w : World) (t : Tr) : (boxW w t).heap.size = w.heap.size + 1 := by unfold boxW; simp
theorem negB_at {t : Tr} (h8 : ¬ t.kind = 8) (h9 : ¬ t.kind = 9) : decide (t.kind = 8 ∨ t.kind = 9 ∨ t.neg = false) = !t.neg := by cases t.neg <;> simp [h8, h9]

end Go.Proofs.Ytjkcbojlopdonaa

/- A set that is handed in by value, as data and as four words. -/
namespace Go.Proofs.Ytjkcbojlopdonaa
open Go.ChangeShapes Go.WideShapes Go.ChangeAt Go.RowKit

theorem own : ownKnob Try.prog.godebug = none := by kernel_rfl
theorem laidOut : laidOutB Try.prog = true := by kernel_rfl
theorem u64_of_wf {n : Int} (h : (Lit.int .u64 n).wf = true) : ∃ k : Nat, n = (k : Int) ∧ U64 k := by
  obtain ⟨h1, h2⟩ := bounds_u64 h
  refine ⟨n.toNat, by omega, ?_⟩
  unfold U64
  omega
section
variable {H : Type} {enc : TypeId × Value → H} {P : Program} {w : World} {base : Nat} {spare : Nat → Bool} {held : Bool}
theorem trod_below {t : TypeId} {v : Value} {d : DataW H} {p : List MemPlace} (h : DataW.Trod enc P w base spare held t v d p) : ∀ x ∈ p, x.block < w.heap.size := by
  obtain ⟨m, hm⟩ := h; exact DataW.trod_lt m _ _ _ hm
end

end Go.Proofs.Ytjkcbojlopdonaa

/- A list of sets, and classes, that are handed in: as data and as cells. -/
namespace Go.Proofs.Ytjkcbojlopdonaa
open Go.ChangeShapes Go.WideShapes Go.ChangeAt Go.RowKit

instance : Inhabited St := ⟨⟨0, 0, 0, 0⟩⟩
section
variable {H : Type} {enc : TypeId × Value → H} {P : Program} {w : World} {base : Nat} {spare : Nat → Bool} {held : Bool}
theorem set_of_cells {fuel : Nat} {T E : TypeId} {c0 c1 c2 c3 : Value} {x : DataW H × List MemPlace} (hu : P.underlying T = some (.array 4 E)) (hE : P.underlying E = some (.int .u64)) (hcE : P.cellsOf E = 1)
    (h : DataW.trod enc P w base spare held fuel T [c0, c1, c2, c3] = some x) : ∃ s : St, s.Ok ∧ c0 = .int .u64 s.w0 ∧ c1 = .int .u64 s.w1 ∧ c2 = .int .u64 s.w2 ∧ c3 = .int .u64 s.w3 := by
  obtain ⟨y0, y1, y2, y3, m, _, hy0, hy1, hy2, hy3⟩ := trod_array4 hu hcE h
  obtain ⟨x0, e0, _, w0⟩ := DataW.trod_int hE hy0
  obtain ⟨x1, e1, _, w1⟩ := DataW.trod_int hE hy1
  obtain ⟨x2, e2, _, w2⟩ := DataW.trod_int hE hy2
  obtain ⟨x3, e3, _, w3⟩ := DataW.trod_int hE hy3
  simp at e0 e1 e2 e3
  subst e0 e1 e2 e3
  obtain ⟨k0, rfl, u0⟩ := u64_of_wf w0
  obtain ⟨k1, rfl, u1⟩ := u64_of_wf w1
  obtain ⟨k2, rfl, u2⟩ := u64_of_wf w2
  obtain ⟨k3, rfl, u3⟩ := u64_of_wf w3
  exact ⟨⟨k0, k1, k2, k3⟩, ⟨u0, u1, u2, u3⟩, rfl, rfl, rfl, rfl⟩
theorem add_plain' (b o j : Nat) : (⟨b, o, none⟩ : Addr).add j = ⟨b, o + j, none⟩ := by unfold Addr.add; split <;> simp_all
end

end Go.Proofs.Ytjkcbojlopdonaa
