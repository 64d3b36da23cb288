/- Joined: OpenSets, OpenTr, OpenNodes, Own, NodeBelow, ArenaSpec, TurnTwice. -/
import Derived.Test.YthifbaacmohmnaaGreatProg
import Derived.Test.YthifbaacmohmnaaGreatMaa
import Derived.Test.YthifbaacmohmnaaGreatMae
import Derived.Deep.Slices
import Derived.OpenShut
import Derived.Test.YthifbaacmohmnaaGreatMab
import Derived.Test.YthifbaacmohmnaaGreatMad
import Derived.Laws.OwnMore
import Derived.Deep.AppendLies
/- A list of sets, and classes, that are handed in: as data and as cells. -/
namespace Go.Proofs.YthifbaacmohmnaaGreat
open Go.ChangeShapes Go.WideShapes Go.ChangeAt Go.RowKit

instance : Inhabited St := ⟨⟨0, 0, 0, 0⟩⟩
section
variable {H : Type} {enc : TypeId × Value → H} {P : Program} {w : World} {base : Nat} {spare : Nat → Bool} {held : Bool}
theorem set_of_cells {fuel : Nat} {T E : TypeId} {c0 c1 c2 c3 : Value} {x : DataW H × List MemPlace} (hu : P.underlying T = some (.array 4 E)) (hE : P.underlying E = some (.int .u64)) (hcE : P.cellsOf E = 1)
    (h : DataW.trod enc P w base spare held fuel T [c0, c1, c2, c3] = some x) : ∃ s : St, s.Ok ∧ c0 = .int .u64 s.w0 ∧ c1 = .int .u64 s.w1 ∧ c2 = .int .u64 s.w2 ∧ c3 = .int .u64 s.w3 := by
  obtain ⟨y0, y1, y2, y3, m, _, hy0, hy1, hy2, hy3⟩ := trod_array4 hu hcE h
  obtain ⟨x0, e0, _, w0⟩ := DataW.trod_int hE hy0
  obtain ⟨x1, e1, _, w1⟩ := DataW.trod_int hE hy1
  obtain ⟨x2, e2, _, w2⟩ := DataW.trod_int hE hy2
  obtain ⟨x3, e3, _, w3⟩ := DataW.trod_int hE hy3
  simp at e0 e1 e2 e3
  subst e0 e1 e2 e3
  obtain ⟨k0, rfl, u0⟩ := u64_of_wf w0
  obtain ⟨k1, rfl, u1⟩ := u64_of_wf w1
  obtain ⟨k2, rfl, u2⟩ := u64_of_wf w2
  obtain ⟨k3, rfl, u3⟩ := u64_of_wf w3
  exact ⟨⟨k0, k1, k2, k3⟩, ⟨u0, u1, u2, u3⟩, rfl, rfl, rfl, rfl⟩
theorem add_plain' (b o j : Nat) : (⟨b, o, none⟩ : Addr).add j = ⟨b, o + j, none⟩ := by unfold Addr.add; split <;> simp_all
end

end Go.Proofs.YthifbaacmohmnaaGreat

/- A pattern that is handed in: as data and as cells. -/
namespace Go.Proofs.YthifbaacmohmnaaGreat
open Go.ChangeShapes Go.WideShapes Go.ChangeAt Go.RowKit

instance : Inhabited Tr := ⟨.node 0 ⟨0, 0, 0, 0⟩ none 0 0 [] 0 0 false⟩
theorem Tr.In.le {w : World} {k : Nat} {t : Tr} (h : Tr.In w k t) : ∀ (j : Nat), Tr.In w (k + j) t
  | 0 => h
  | j + 1 => Tr.In.up _ _ (Tr.In.le h j)
theorem range_of_cells {w : World} {base b off n : Nat} {cs : List Value} (h : w.cells? base ⟨b, off, none⟩ n = some cs) : w.rangeAt b off cs := by
  unfold World.cells? at h
  split at h
  · intro j v hv
    have hj := mapM_some_get h j j
    have hl : j < cs.length := (List.getElem?_eq_some_iff.1 hv).1
    have hn : cs.length = n := by simpa using mapM_some_length h
    have := hj (by rw [List.getElem?_eq_getElem (by rw [List.length_range]; omega), List.getElem_range])
    rw [add_plain'] at this
    rw [this]; exact hv
  · cases h
theorem i64_of_wf {n : Int} (h : (Lit.int .i64 n).wf = true) : I64 n := by
  have := bounds_i64 h
  unfold I64; omega
section
variable {H : Type} {enc : TypeId × Value → H} {P : Program} {w : World} {base : Nat} {spare : Nat → Bool} {held : Bool}
end

end Go.Proofs.YthifbaacmohmnaaGreat

/- Nodes that are handed in, one or a list: as data and as cells. -/
namespace Go.Proofs.YthifbaacmohmnaaGreat
open Go.ChangeShapes Go.WideShapes Go.ChangeAt Go.RowKit

instance : Inhabited Nd := ⟨Nd.zero⟩
/-- What a node's fields can hold at all. -/
def NdFit (x : Nd) : Prop := I64 x.kind ∧ x.set.Ok ∧ I64 x.a ∧ I64 x.b
section
variable {H : Type} {enc : TypeId × Value → H} {P : Program} {w : World} {base : Nat} {spare : Nat → Bool} {held : Bool}
theorem open_node_cells {T S U I B : TypeId} {f0 f1 f2 f3 f4 : Field} (hT : P.underlying T = some (.struct #[f0, f1, f2, f3, f4]))
    (e0 : f0.type = I ∧ f0.offset = 0) (e1 : f1.type = S ∧ f1.offset = 1) (e2 : f2.type = I ∧ f2.offset = 5) (e3 : f3.type = I ∧ f3.offset = 6) (e4 : f4.type = B ∧ f4.offset = 7)
    (hS : P.underlying S = some (.array 4 U)) (hU : P.underlying U = some (.int .u64)) (hI : P.underlying I = some (.int .i64)) (hB : P.underlying B = some .bool)
    (cT : P.cellsOf T = 8) (cS : P.cellsOf S = 4) (cU : P.cellsOf U = 1) (cI : P.cellsOf I = 1) (cB : P.cellsOf B = 1)
    {fuel : Nat} {cs : List Value} {x : DataW H × List MemPlace} (h : DataW.trod enc P w base spare held fuel T cs = some x) : ∃ t : Nd, NdFit t ∧ cs = t.cs := by
  obtain ⟨xs, m, rfl, _, hl, hxl, hf⟩ := DataW.trod_struct hT h
  rw [cT] at hl
  obtain ⟨c0, c1, c2, c3, c4, c5, c6, c7, rfl⟩ : ∃ c0 c1 c2 c3 c4 c5 c6 c7, cs = [c0, c1, c2, c3, c4, c5, c6, c7] := by
    match cs, hl with
    | [c0, c1, c2, c3, c4, c5, c6, c7], _ => exact ⟨_, _, _, _, _, _, _, _, rfl⟩
  have hx : ∀ i, i < 5 → ∃ y, xs[i]? = some y := fun i hi => ⟨xs[i]'(by rw [hxl]; exact hi), List.getElem?_eq_getElem _⟩
  obtain ⟨y0, hy0⟩ := hx 0 (by omega)
  obtain ⟨y1, hy1⟩ := hx 1 (by omega)
  obtain ⟨y2, hy2⟩ := hx 2 (by omega)
  obtain ⟨y3, hy3⟩ := hx 3 (by omega)
  obtain ⟨y4, hy4⟩ := hx 4 (by omega)
  have t0 := hf 0 f0 rfl
  have t1 := hf 1 f1 rfl
  have t2 := hf 2 f2 rfl
  have t3 := hf 3 f3 rfl
  have t4 := hf 4 f4 rfl
  rw [e0.1, e0.2, cI, hy0] at t0
  rw [e1.1, e1.2, cS, hy1] at t1
  rw [e2.1, e2.2, cI, hy2] at t2
  rw [e3.1, e3.2, cI, hy3] at t3
  rw [e4.1, e4.2, cB, hy4] at t4
  simp only [List.drop_zero, List.drop_succ_cons, List.take_succ_cons, List.take_zero] at t0 t1 t2 t3 t4
  obtain ⟨kind, g0, _, w0⟩ := DataW.trod_int hI t0
  obtain ⟨s, hs, rfl, rfl, rfl, rfl⟩ := set_of_cells hS hU cU t1
  obtain ⟨a, g2, _, w2⟩ := DataW.trod_int hI t2
  obtain ⟨b, g3, _, w3⟩ := DataW.trod_int hI t3
  obtain ⟨neg, g4, _⟩ := DataW.trod_bool hB t4
  injection g0 with g0 _
  injection g2 with g2 _
  injection g3 with g3 _
  injection g4 with g4 _
  subst g0 g2 g3 g4
  exact ⟨⟨kind, s, a, b, neg⟩, ⟨i64_of_wf w0, hs, i64_of_wf w2, i64_of_wf w3⟩, rfl⟩
theorem open_nodes {r : Reach} {b0 : Nat} {L T S U I B : TypeId} {f0 f1 f2 f3 f4 : Field} {v : Value} {d : DataW H} {p : List MemPlace} (hu : P.underlying L = some (.slice T)) (hT : P.underlying T = some (.struct #[f0, f1, f2, f3, f4]))
    (e0 : f0.type = I ∧ f0.offset = 0) (e1 : f1.type = S ∧ f1.offset = 1) (e2 : f2.type = I ∧ f2.offset = 5) (e3 : f3.type = I ∧ f3.offset = 6) (e4 : f4.type = B ∧ f4.offset = 7)
    (hS : P.underlying S = some (.array 4 U)) (hU : P.underlying U = some (.int .u64)) (hI : P.underlying I = some (.int .i64)) (hB : P.underlying B = some .bool)
    (cT : P.cellsOf T = 8) (cS : P.cellsOf S = 4) (cU : P.cellsOf U = 1) (cI : P.cellsOf I = 1) (cB : P.cellsOf B = 1)
    (hv : Value.okWide P w r b0 L v) (h : DataW.Trod enc P w base spare held L v d p) : ∃ (A : Option Addr) (n c : Nat) (l : List Nd), n = l.length ∧ NdsAt w (.slice A n c) l ∧ (∀ j, j < l.length → NdFit (ndAt l j)) ∧ n ≤ c ∧ c ≤ 9223372036854775807 ∧ v = .slice A n c := by
  obtain ⟨A, n, c, rfl⟩ := okWide_slice hu hv
  obtain ⟨fuel, hf⟩ := h
  rcases Deep.open_slice hu hf with ⟨hcs, _⟩ | ⟨x, len, cap, m, k, D, Pl, hcs, _, hlc, hm, hmm, _, hcell⟩
  · simp [Value.cells] at hcs
    obtain ⟨rfl, rfl, rfl⟩ := hcs
    exact ⟨none, 0, 0, [], rfl, ⟨none, 0, rfl, Nat.zero_le _, fun h => absurd h (Nat.lt_irrefl _)⟩, fun j hj => absurd hj (Nat.not_lt_zero _), Nat.le_refl _, Nat.zero_le _, rfl⟩
  · simp [Value.cells] at hcs
    obtain ⟨rfl, rfl, rfl⟩ := hcs
    have hnm : n ≤ m := by rw [hmm]; split <;> omega
    have hc63 : c ≤ 9223372036854775807 := by unfold maxLen at hm; omega
    obtain ⟨b, off, spot⟩ := x
    by_cases hn : n = 0
    · subst hn
      exact ⟨some ⟨b, off, spot⟩, 0, c, [], rfl, ⟨some ⟨b, off, spot⟩, c, rfl, Nat.zero_le _, fun h => absurd h (Nat.lt_irrefl _)⟩, fun j hj => absurd hj (Nat.not_lt_zero _), hlc, hc63, rfl⟩
    have hspot : spot = none := by
      obtain ⟨cs', hc, ht⟩ := hcell 0 (by omega)
      obtain ⟨t, _, rfl⟩ := open_node_cells hT e0 e1 e2 e3 e4 hS hU hI hB cT cS cU cI cB ht
      rw [cT] at hc
      unfold World.cells? at hc
      split at hc
      · have := mapM_some_get hc 0 0 (by simp)
        have h0 : w.cell? ((({ block := b, off := off, spot := spot } : Addr).add (0 * 8)).add 0) = some (.int .i64 t.kind) := this
        have := World.cell?_spot h0
        simpa [Addr.add] using this
      · cases hc
    subst hspot
    have each : ∀ i, i < n → ∃ s : Nd, NdFit s ∧ w.rangeAt b (off + i * 8) s.cs := by
      intro i hi
      obtain ⟨cs', hc, ht⟩ := hcell i (by omega)
      obtain ⟨t, hfit, rfl⟩ := open_node_cells hT e0 e1 e2 e3 e4 hS hU hI hB cT cS cU cI cB ht
      rw [cT, add_plain'] at hc
      exact ⟨t, hfit, range_of_cells hc⟩
    obtain ⟨f, hf'⟩ := Deep.choose_lt each
    have hat : ∀ j, j < n → ndAt ((List.range n).map f) j = f j := fun j hj => by rw [ndAt_lt (by simpa using hj)]; simp
    refine ⟨some ⟨b, off, none⟩, n, c, (List.range n).map f, by simp, ⟨some ⟨b, off, none⟩, c, by simp, by simp; omega, fun _ => ⟨b, off, rfl, ?_, fun j hj => ?_⟩⟩, fun j hj => ?_, hlc, hc63, rfl⟩
    · have := (hf' 0 (by omega)).2 0 (.int .i64 (f 0).kind) rfl
      exact block_lt_of_cell this
    · have hj' : j < n := by simpa using hj
      rw [hat j hj']; exact (hf' j hj').2
    · have hj' : j < n := by simpa using hj
      rw [hat j hj']; exact (hf' j hj').1
end

end Go.Proofs.YthifbaacmohmnaaGreat

/- Slices of the call's own: a row of whole numbers that reads as a list. No program is named here. -/
namespace Go.Proofs.YthifbaacmohmnaaGreat
open Go.RowKit

theorem below_grown {w w' : World} (hb : Below w.heap.size w w') (row : Option Nat) : w.grownBy w' row := ⟨hb.os, hb.tape, hb.output, hb.size, fun i hi _ => hb.block i hi⟩
theorem SetAt.grown {w w' : World} {g : Nat} {t : TypeId} {s : St} {row : Option Nat} (h : SetAt w g t s) (hg : w.grownBy w' row) (hr : ∀ k, row = some k → g < k) : SetAt w' g t s :=
  (hg.block g h.lt (fun e => by have := hr g e.symm; omega)).trans h
/-- v is a slice of the call's own (in a block from base on) whose elements, whole numbers of kind k and type e, are l. -/
def IntRow (w : World) (base : Nat) (e : TypeId) (k : IntKind) (v : Value) (l : List Nat) : Prop := w.ownsRow base e 1 v l.length (l.map (fun b => Value.int k (b : Nat)))
section
variable {w w' w0 : World} {base : Nat} {e : TypeId} {k : IntKind} {v : Value} {l : List Nat}
theorem IntRow.nil (w : World) (base : Nat) (e : TypeId) (k : IntKind) : IntRow w base e k (.slice none 0 0) [] := World.ownsRow_nil w base e 1
theorem IntRow.heap (h : IntRow w base e k v l) (hh : w0.heap = w.heap) : IntRow w0 base e k v l := by
  unfold IntRow World.ownsRow at h ⊢
  rw [hh]
  exact h
theorem IntRow.drew (h : IntRow w base e k v l) : IntRow w.drew base e k v l := h.heap rfl
theorem IntRow.grown {row : Option Nat} (h : IntRow w base e k v l) (hg : w.grownBy w' row) (hr : v.ownBlock = none ∨ v.ownBlock ≠ row) : IntRow w' base e k v l := World.ownsRow.kept h hg hr
theorem IntRow.next (h : IntRow w base e k v l) (hb : Below w.heap.size w w') : IntRow w' base e k v l :=
  World.ownsRow.kept (row := none) h (below_grown hb none) (by cases hv : v.ownBlock <;> simp)
theorem IntRow.step (h : IntRow w base e k v l) (hb : Below w0.heap.size w0 w') (hh : w0.heap = w.heap) : IntRow w' base e k v l := (h.heap hh).next hb
theorem IntRow.alloc (h : IntRow w base e k v l) (o : Obj) : IntRow (w.alloc o) base e k v l := World.ownsRow.alloc h o
theorem IntRow.mono {base' : Nat} (h : IntRow w base e k v l) (hb : base' ≤ base) : IntRow w base' e k v l := by
  refine ⟨h.1, ?_⟩
  rcases h.2 with hn | ⟨g, cap, cur, hv, hbg, rest⟩
  · exact .inl hn
  · exact .inr ⟨g, cap, cur, hv, by omega, rest⟩
theorem IntRow.len (h : IntRow w base e k v l) : ∃ A cap, v = .slice A l.length cap := by
  rcases h.2 with ⟨rfl, hn⟩ | ⟨g, cap, cur, rfl, _⟩
  · exact ⟨none, 0, by rw [hn]⟩
  · exact ⟨_, _, rfl⟩
theorem IntRow.form (h : IntRow w base e k v l) (hn : 0 < l.length) : ∃ g cap, v = .slice (some ⟨g, 0, none⟩) l.length cap ∧ base ≤ g ∧ g < w.heap.size ∧ l.length ≤ cap ∧ cap ≤ maxLen := by
  rcases h.2 with ⟨rfl, h0⟩ | ⟨g, cap, cur, rfl, hb, hg, hc, hm, _⟩
  · omega
  · exact ⟨g, cap, rfl, hb, (Array.getElem?_eq_some_iff.1 hg).1, hc, hm⟩
theorem IntRow.at {g cap n : Nat} (h : IntRow w base e k (.slice (some ⟨g, 0, none⟩) n cap) l) (j : Nat) (hj : j < l.length) : w.cell? ⟨g, j, none⟩ = some (.int k (l[j] : Nat)) := by
  have hl : n = l.length := by
    rcases h.2 with ⟨hv, _⟩ | ⟨g', cap', cur, hv, _⟩
    · cases hv
    · injection hv
  subst hl
  rw [World.ownsRow.cellAt h j (by omega)]
  simp [hj]
theorem IntRow.max (h : IntRow w base e k v l) : l.length ≤ maxLen := by
  rcases h.2 with ⟨_, h0⟩ | ⟨g, cap, cur, _, _, _, hc, hm, _⟩
  · rw [h0]; exact Nat.zero_le _
  · omega
theorem IntRow.low (h : IntRow w base e k v l) : ∀ g, v.ownBlock = some g → base ≤ g := fun g hg => (World.ownsRow.lt h g hg).1
theorem IntRow.push {b : Nat} (h : w.ownsRow base e 1 v (l.length + 1) (l.map (fun b => Value.int k (b : Nat)) ++ [Value.int k (b : Nat)])) : IntRow w base e k v (l ++ [b]) := by
  unfold IntRow
  simpa using h
end

end Go.Proofs.YthifbaacmohmnaaGreat

/- bolterlaw09.below: is a node below another one, or itself? -/
namespace Go.Proofs.YthifbaacmohmnaaGreat
open Go.RowKit
set_option linter.unusedSimpArgs false
set_option linter.unusedVariables false

end Go.Proofs.YthifbaacmohmnaaGreat

/- What an arena does, said of any way to read one out of the memory; and what an arena of some nodes is. -/
namespace Go.Proofs.YthifbaacmohmnaaGreat
open Go.RowKit
set_option linter.unusedVariables false

/-- Only blocks of F have turned, and new ones have come. -/
structure OffF (F : Nat → Prop) (w w' : World) : Prop where
  os : w'.os = w.os
  tape : w'.tape = w.tape
  output : w'.output = w.output
  size : w.heap.size ≤ w'.heap.size
  block : ∀ b, b < w.heap.size → ¬ F b → w'.heap[b]? = w.heap[b]?
theorem OffF.below {F : Nat → Prop} {w w' : World} {B : Nat} (h : OffF F w w') (hF : ∀ b, F b → B ≤ b) (hB : B ≤ w.heap.size) : Below B w w' :=
  ⟨h.os, h.tape, h.output, h.size, fun b hb => h.block b (by omega) (fun q => by have := hF b q; omega)⟩
theorem OffF.of {F : Nat → Prop} {w w' : World} (h : Below w.heap.size w w') : OffF F w w' := ⟨h.os, h.tape, h.output, h.size, fun b hb _ => h.block b hb⟩
def findN (ns : List Nd) (x : Nd) : Nat := ns.findIdx (fun y => y.eqb x)
def putS (ns : List Nd) (x : Nd) : List Nd := if x.right ns.length then (if findN ns x < ns.length then ns else ns ++ [x]) else ns
def putId (ns : List Nd) (x : Nd) : Int := if x.right ns.length then (findN ns x : Int) else 0
def putE (ns : List Nd) (x : Nd) : Int := if x.right ns.length then 0 else 1
def madeS (l : List Nd) : List Nd := l.foldl putS []
theorem putS_le (ns : List Nd) (x : Nd) : (putS ns x).length ≤ ns.length + 1 := by
  unfold putS
  split
  · split
    · omega
    · rw [List.length_append]; simp
  · omega
theorem made_succ (l : List Nd) (i : Nat) (h : i < l.length) : madeS (l.take (i + 1)) = putS (madeS (l.take i)) (ndAt l i) := by
  unfold madeS
  rw [ndAt_lt h, List.take_add_one, List.getElem?_eq_getElem h, List.foldl_append]
  rfl
theorem made_le (l : List Nd) : (madeS l).length ≤ l.length := by
  have : ∀ (l ns : List Nd), (l.foldl putS ns).length ≤ ns.length + l.length := by
    intro l
    induction l with
    | nil => intro ns; simp
    | cons x l ih =>
      intro ns
      have h1 := ih (putS ns x)
      have h2 := putS_le ns x
      rw [List.foldl_cons, List.length_cons]
      omega
  show (l.foldl putS []).length ≤ l.length
  simpa using this l []
/-- Each node may stand where it stands, and no two are the same. -/
def FineN (ns : List Nd) : Prop := (∀ j, j < ns.length → (ndAt ns j).right j = true ∧ NdFit (ndAt ns j)) ∧ ∀ i j, i < ns.length → j < ns.length → ndAt ns i = ndAt ns j → i = j
theorem right_ok {x : Nd} {n : Nat} (h : x.right n = true) (hf : NdFit x) : NdOk x n := by
  unfold Nd.right aIn at h
  refine ⟨hf.2.1, fun hk => ?_, fun hk => ?_, fun hk => ?_⟩
  · rw [if_neg (by omega), if_neg (by omega), if_pos hk] at h
    simp only [Bool.and_eq_true, decide_eq_true_eq] at h
    omega
  · rw [if_neg (by omega), if_neg (by omega), if_neg (by omega), if_pos hk] at h
    simp only [Bool.and_eq_true, decide_eq_true_eq] at h
    omega
  · rw [if_neg (by omega), if_neg (by omega), if_neg (by omega), if_neg (by omega), if_pos hk] at h
    simp only [Bool.and_eq_true, decide_eq_true_eq] at h
    omega
theorem FineN.ok {ns : List Nd} (h : FineN ns) (j : Nat) (hj : j < ns.length) : NdOk (ndAt ns j) j := right_ok (h.1 j hj).1 (h.1 j hj).2
section
variable {AA : World → Value → List Nd → (Nat → Prop) → Prop}
end

end Go.Proofs.YthifbaacmohmnaaGreat

/- A node that is turned round twice is the node: mathematics; no program is named. -/
namespace Go.Proofs.YthifbaacmohmnaaGreat
open Go.RowKit
set_option linter.unusedSimpArgs false
set_option linter.unusedVariables false

theorem nd_ext {x y : Nd} (h0 : x.kind = y.kind) (h1 : x.set = y.set) (h2 : x.a = y.a) (h3 : x.b = y.b) (h4 : x.neg = y.neg) : x = y := by
  cases x; cases y; simp_all
theorem right_two {x : Nd} {n : Nat} (h : x.right n = true) (hk : x.kind = 3 ∨ x.kind = 4 ∨ x.kind = 5) : x.set = noSt ∧ x.neg = false := by
  unfold Nd.right at h
  rw [if_neg (by omega), if_neg (by omega), if_pos hk] at h
  simp only [Bool.and_eq_true] at h
  have e := (Nd.eqb_iff _ _).1 h.1.1
  rw [e]
  exact ⟨rfl, rfl⟩
theorem right_one {x : Nd} {n : Nat} (h : x.right n = true) (hk : x.kind = 6 ∨ x.kind = 7) : x.set = noSt ∧ x.b = 0 ∧ x.neg = false := by
  unfold Nd.right at h
  rw [if_neg (by omega), if_neg (by omega), if_neg (by omega), if_pos hk] at h
  simp only [Bool.and_eq_true] at h
  have e := (Nd.eqb_iff _ _).1 h.1
  rw [e]
  exact ⟨rfl, rfl, rfl⟩
theorem right_kind {x : Nd} {n : Nat} (h : x.right n = true) : x.kind = 0 ∨ x.kind = 1 ∨ x.kind = 2 ∨ x.kind = 3 ∨ x.kind = 4 ∨ x.kind = 5 ∨ x.kind = 6 ∨ x.kind = 7 ∨ x.kind = 8 := by
  unfold Nd.right at h
  by_cases k0 : x.kind = 0 ∨ x.kind = 1
  · omega
  rw [if_neg k0] at h
  by_cases k2 : x.kind = 2
  · omega
  rw [if_neg k2] at h
  by_cases k3 : x.kind = 3 ∨ x.kind = 4 ∨ x.kind = 5
  · omega
  rw [if_neg k3] at h
  by_cases k6 : x.kind = 6 ∨ x.kind = 7
  · omega
  rw [if_neg k6] at h
  by_cases k8 : x.kind = 8
  · omega
  rw [if_neg k8] at h
  cases h
end Go.Proofs.YthifbaacmohmnaaGreat
