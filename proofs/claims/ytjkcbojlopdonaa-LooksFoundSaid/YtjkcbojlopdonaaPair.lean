/- Pairs of places as keys of a map, where the first place lies in a block that no key so far names: such a key isn't there, and the tape isn't asked. -/
import Derived.Test.YtjkcbojlopdonaaPlace
import Derived.ChangeKeysEq
namespace Go.Proofs.Ytjkcbojlopdonaa
open Go.RowKit
set_option linter.unusedSimpArgs false
set_option linter.unusedVariables false

/-- A block of cells, none of which is marked. -/
def Clean (w : World) (g : Nat) : Prop := ∃ t cs, At w g t cs
theorem Clean.lt {w : World} {g : Nat} (h : Clean w g) : g < w.heap.size := by obtain ⟨t, cs, h⟩ := h; exact At.lt h
theorem Clean.block {w w' : World} {g : Nat} (h : Clean w g) (e : w'.heap[g]? = w.heap[g]?) : Clean w' g := by obtain ⟨t, cs, h⟩ := h; exact ⟨t, cs, e.trans h⟩
theorem Clean.shape {w : World} {g : Nat} (h : Clean w g) : ∃ x, w.shape? g = some x := by
  obtain ⟨t, cs, h⟩ := h
  unfold At at h
  exact ⟨_, by unfold World.shape?; rw [h]⟩
theorem Clean.free {w : World} {g : Nat} (h : Clean w g) (o : Nat) : w.frozen? ⟨g, o, none⟩ = false := by obtain ⟨t, cs, h⟩ := h; exact At.free h o
theorem sameAddr_no (w : World) (a b : Nat) (ha : Clean w a) (hb : Clean w b) (hne : a ≠ b) : (sameAddr ⟨a, 0, none⟩ ⟨b, 0, none⟩).run Try.prog w = .ok false w := by
  obtain ⟨⟨ta, na⟩, sa⟩ := ha.shape
  obtain ⟨⟨tb, nb⟩, sb⟩ := hb.shape
  have fa : ∀ o, w.frozen? ⟨a, o, none⟩ = false := ha.free
  have fb : ∀ o, w.frozen? ⟨b, o, none⟩ = false := hb.free
  simp [sameAddr, hne, fa, fb, noView, viewAt, sa, sb, mayBeOne, stringish, frozen, shape, Sem.run]
theorem ptrEq_no (d : Nat) (w : World) (a b : Nat) (ha : Clean w a) (hb : Clean w b) (hne : a ≠ b) : (Op.equalIn (d + 1) 53 (.pointer (some ⟨a, 0, none⟩)) (.pointer (some ⟨b, 0, none⟩))).run Try.prog w = .ok false w := by
  rw [← sameAddr_no w a b ha hb hne]
  have hu := run_underlying (w := w) Try.underlying53
  simp only [Op.equalIn, Sem.run_bind, hu, Result.andThen_ok, size_re]
  simp
theorem placeEq_no (d : Nat) (w : World) (a b : Nat) (m n : Int) (ha : Clean w a) (hb : Clean w b) (hne : a ≠ b) : (Op.equalIn (d + 1 + 1) 55 (placeV ⟨a, 0, none⟩ m) (placeV ⟨b, 0, none⟩ n)).run Try.prog w = .ok false w := by
  have h := ptrEq_no d w a b ha hb hne
  unfold placeV
  rw [run_equalIn_struct w (d + 1) _ _ _ struct_pl stood_pl]
  obtain ⟨f0, f1, hfs, ⟨n0, t0, o0⟩, ⟨n1, t1, o1⟩⟩ := fields_pl'
  rw [hfs]
  have hn0 : f0.name ≠ "_" := by rw [n0]; decide
  unfold Op.eqFields
  rw [if_pos hn0, t0, o0]
  simp only [Sem.run_bind, pl_part0, h, Result.andThen_ok]
  rfl
/-- The key of two lists. -/
def pairV (a : Nat) (n : Int) (b : Addr) (m : Int) : Value := .agg #[.pointer (some ⟨a, 0, none⟩), .int .i64 n, .pointer (some b), .int .i64 m]
theorem array_pr : Try.prog.underlying 57 = some (.array 2 55) := by kernel_rfl
theorem info_pl : ∃ i, Try.prog.info? 55 = some i := by
  have h : (Try.prog.info? 55).isSome = true := by kernel_rfl
  exact Option.isSome_iff_exists.1 h
theorem cells_pl : Try.prog.cellsOf 55 = 2 := by kernel_rfl
theorem size_pl (w : World) : (Go.sizeOf 55).run Try.prog w = .ok 2 w := by
  have h : (Try.prog.info? 55).map (·.size) = some 2 := by kernel_rfl
  cases hi : Try.prog.info? 55 with
  | none => rw [hi] at h; cases h
  | some i => rw [hi] at h; simp at h; simp [Go.sizeOf, typeInfo, hi, h]
theorem pr_part0 (w : World) (a : Nat) (n : Int) (b : Addr) (m : Int) : (part 55 #[.pointer (some ⟨a, 0, none⟩), .int .i64 n, .pointer (some b), .int .i64 m] 0).run Try.prog w = .ok (placeV ⟨a, 0, none⟩ n) w := by
  unfold part
  simp only [isAgg, Sem.run_bind, run_underlying struct_pl, Result.andThen_ok, Sem.run_pure, size_pl, if_true]
  rfl
theorem pr_part2 (w : World) (a : Nat) (n : Int) (b : Addr) (m : Int) : (part 55 #[.pointer (some ⟨a, 0, none⟩), .int .i64 n, .pointer (some b), .int .i64 m] 2).run Try.prog w = .ok (placeV b m) w := by
  unfold part
  simp only [isAgg, Sem.run_bind, run_underlying struct_pl, Result.andThen_ok, Sem.run_pure, size_pl, if_true]
  rfl
theorem pairEqD (d : Nat) (w : World) (a b : Nat) (n m : Int) (x y : Addr) (p q : Int) (ha : Clean w a) (hb : Clean w b) (hne : a ≠ b) : (Op.equalIn (d + 1 + 1 + 1) 57 (pairV a n x p) (pairV b m y q)).run Try.prog w = .ok false w := by
  obtain ⟨i, hi⟩ := info_pl
  unfold pairV
  rw [run_equalIn_array w (d + 1 + 1) _ _ array_pr hi, cells_pl]
  show (Op.eqItems (d + 1 + 1) 55 2 _ _ [0, 1]).run Try.prog w = _
  unfold Op.eqItems
  simp only [Sem.run_bind, Nat.zero_mul, pr_part0, placeEq_no d w a b n m ha hb hne, Result.andThen_ok]
  rfl
theorem pairEq (w : World) (a b : Nat) (n m : Int) (x y : Addr) (p q : Int) (ha : Clean w a) (hb : Clean w b) (hne : a ≠ b) : (Op.equal 57 (pairV a n x p) (pairV b m y q)).run Try.prog w = .ok false w := pairEqD 9997 w a b n m x y p q ha hb hne
/-- The map of pairs: its keys' first blocks are some of gs. -/
def PairsAt (w : World) (g : Nat) (gs : List Nat) : Prop := ∃ es clock, w.heap[g]? = some (.map es clock) ∧ ∀ e ∈ es.toList, ∃ a n b m, e.key = pairV a n b m ∧ a ∈ gs ∧ a < g ∧ Clean w a
theorem find_no (x : Nat) (n : Int) (y : Addr) (m : Int) (w : World) (hx : Clean w x) : ∀ (es : List MapEntry) (i : Nat), (∀ e ∈ es, ∃ a n b m, e.key = pairV a n b m ∧ a ≠ x ∧ Clean w a) →
    (Instr.findAsking 57 (pairV x n y m) es i).run Try.prog w = .ok none w
  | [], i, _ => rfl
  | e :: es, i, hk => by
    obtain ⟨a, n', b, m', hkey, hne, hc⟩ := hk e (by simp)
    unfold Instr.findAsking
    rw [hkey]
    simp only [Sem.run_bind, pairEq w x a n n' y b m m' hx hc (Ne.symm hne), Result.andThen_ok]
    exact find_no x n y m w hx es (i + 1) (fun e he => hk e (by simp [he]))
theorem findKey_no (x : Nat) (n : Int) (y : Addr) (m : Int) (w : World) (hx : Clean w x) (es : List MapEntry) (hk : ∀ e ∈ es, ∃ a n b m, e.key = pairV a n b m ∧ a ≠ x ∧ Clean w a) :
    (Instr.findKey 57 (pairV x n y m) es).run Try.prog w = .ok none w := by
  cases es with
  | nil => simp only [Instr.findKey, Sem.run_bind, run_underlying array_pr, Result.andThen_ok, Instr.findNow]; rfl
  | cons e es =>
    have h1 := find_no x n y m w hx (e :: es) 0 hk
    simp only [Instr.findKey, Sem.run_bind, run_underlying array_pr, Result.andThen_ok, Instr.findNow, Instr.sameNow]
    exact h1
theorem check_pair (em : Bool) (d : Nat) (a : Nat) (n : Int) (b : Addr) (m : Int) (w : World) : (Instr.checkKey em (d + 1 + 1 + 1) 57 (pairV a n b m)).run Try.prog w = .ok () w := by
  unfold Instr.checkKey pairV
  simp only [Sem.run_bind, run_underlying array_pr, Result.andThen_ok]
  simp only [Std.Legacy.Range.forIn_eq_forIn_range', Std.Legacy.Range.size, Nat.sub_zero, Nat.add_one_sub_one, Nat.div_one]
  rw [show List.range' 0 2 = [0, 1] from rfl]
  simp only [List.forIn_cons, Sem.run_bind, size_pl, Result.andThen_ok, Nat.zero_mul, Nat.one_mul, pr_part0, pr_part2, check_place, Sem.run_pure, List.forIn_nil]
set_option maxRecDepth 20000 in
theorem lookup_no (w : World) (g x : Nat) (n : Int) (y : Addr) (m : Int) (gs : List Nat) (h : PairsAt w g gs) (hx : Clean w x) (hn : x ∉ gs) :
    (Instr.lookup 52 (.map (some g)) (pairV x n y m) true).run Try.prog w = .ok (.tuple #[unitV, .bool false]) w := by
  obtain ⟨es, clock, hb, hk⟩ := h
  have h1 := findKey_no x n y m w hx es.toList (fun e he => by
    obtain ⟨a, n', b, m', e1, e2, _, e3⟩ := hk e he
    exact ⟨a, n', b, m', e1, fun q => hn (q ▸ e2), e3⟩)
  have hz : (zeroValue 58).run Try.prog w = .ok unitV w := (zero_of_info (P := Try.prog) (n := 0) (by kernel_rfl)).1 _
  have hc : (Instr.checkKey es.isEmpty 10000 57 (pairV x n y m)).run Try.prog w = .ok () w := check_pair es.isEmpty 9997 x n y m w
  unfold Instr.lookup
  simp only [Sem.run_bind, run_underlying Try.underlying52, Result.andThen_ok, getMap hb, Sem.run_pure, hc, h1, hz]
  rfl
theorem update_no (w : World) (g x : Nat) (n : Int) (y : Addr) (m : Int) (gs : List Nat) (h : PairsAt w g gs) (hx : Clean w x) (hxg : x < g) (hn : x ∉ gs) :
    ∃ w', (Instr.mapUpdate 52 (.map (some g)) (pairV x n y m) unitV).run Try.prog w = .ok () w' ∧ PairsAt w' g (x :: gs) ∧ w.grownBy w' (some g) := by
  obtain ⟨es, clock, hb, hk⟩ := h
  have h1 := findKey_no x n y m w hx es.toList (fun e he => by
    obtain ⟨a, n', b, m', e1, e2, _, e3⟩ := hk e he
    exact ⟨a, n', b, m', e1, fun q => hn (q ▸ e2), e3⟩)
  have hc : (Instr.checkKey false 10000 57 (pairV x n y m)).run Try.prog w = .ok () w := check_pair false 9997 x n y m w
  have hg : g < w.heap.size := by
    rcases Nat.lt_or_ge g w.heap.size with z | z
    · exact z
    · rw [Array.getElem?_eq_none z] at hb; cases hb
  unfold Instr.mapUpdate
  simp only [Sem.run_bind, run_underlying Try.underlying52, Result.andThen_ok, getMap hb, Sem.run_pure, hc, h1, setMap _ hb]
  refine ⟨_, rfl, ⟨_, _, by show (w.heap.setIfInBounds g _)[g]? = _; rw [Array.getElem?_setIfInBounds_self_of_lt hg], fun e he => ?_⟩, ⟨rfl, rfl, rfl, by show w.heap.size ≤ (w.heap.setIfInBounds g _).size; simp, fun k hk2 hne => by show (w.heap.setIfInBounds g _)[k]? = _; rw [Array.getElem?_setIfInBounds_ne (fun e => hne (by rw [e]))]⟩⟩
  have hcl : ∀ (o : Obj) a, a < g → Clean w a → Clean { w with heap := w.heap.setIfInBounds g o } a := fun o a ha q => q.block (by show (w.heap.setIfInBounds g _)[a]? = _; rw [Array.getElem?_setIfInBounds_ne (by omega)])
  rw [Array.toList_push, List.mem_append, List.mem_singleton] at he
  rcases he with he | rfl
  · obtain ⟨a, n', b, m', e1, e2, e3, e4⟩ := hk e he
    exact ⟨a, n', b, m', e1, by simp [e2], e3, hcl _ a e3 e4⟩
  · exact ⟨x, n, y, m, rfl, by simp, hxg, hcl _ x hxg hx⟩
theorem PairsAt.keep {w w' : World} {g : Nat} {gs : List Nat} (h : PairsAt w g gs) (hb : Below (g + 1) w w') : PairsAt w' g gs := by
  obtain ⟨es, clock, h1, h2⟩ := h
  refine ⟨es, clock, by rw [hb.block g (Nat.lt_succ_self _)]; exact h1, fun e he => ?_⟩
  obtain ⟨a, n, b, m, h3, h4, h5, h6⟩ := h2 e he
  exact ⟨a, n, b, m, h3, h4, h5, h6.block (hb.block _ (by omega))⟩
theorem PairsAt.lt {w : World} {g : Nat} {gs : List Nat} (h : PairsAt w g gs) : g < w.heap.size := by
  obtain ⟨es, clock, h1, _⟩ := h
  rcases Nat.lt_or_ge g w.heap.size with q | q
  · exact q
  · rw [Array.getElem?_eq_none q] at h1; cases h1
theorem PairsAt.next {w w' : World} {g : Nat} {gs : List Nat} (h : PairsAt w g gs) (hb : Below w.heap.size w w') : PairsAt w' g gs := h.keep (hb.mono h.lt)
theorem make_mapP (w : World) : (Instr.makeMap 52 none).run Try.prog w = .ok (.map (some w.heap.size)) (w.alloc (.map #[] 0)) := by kernel_rfl
theorem pairs_new (w : World) : PairsAt (w.alloc (.map #[] 0)) w.heap.size [] := ⟨#[], 0, heap_alloc_new w _, fun e he => by cases he⟩
end Go.Proofs.Ytjkcbojlopdonaa
