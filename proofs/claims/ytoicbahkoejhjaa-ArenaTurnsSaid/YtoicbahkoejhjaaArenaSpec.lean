/- What an arena does, said of any way to read one out of the memory; and what an arena of some nodes is. -/
import Derived.Test.YtoicbahkoejhjaaNodeRight
import Derived.Test.YtoicbahkoejhjaaOpenNodes
import Derived.Test.YtoicbahkoejhjaaOwn
import Derived.Test.YtoicbahkoejhjaaNodeBelow
import Derived.Test.YtoicbahkoejhjaaNodeTurn
namespace Go.Proofs.Ytoicbahkoejhjaa
open Go.RowKit
set_option linter.unusedVariables false

/-- Only blocks of F have turned, and new ones have come. -/
structure OffF (F : Nat → Prop) (w w' : World) : Prop where
  os : w'.os = w.os
  tape : w'.tape = w.tape
  output : w'.output = w.output
  size : w.heap.size ≤ w'.heap.size
  block : ∀ b, b < w.heap.size → ¬ F b → w'.heap[b]? = w.heap[b]?
theorem OffF.below {F : Nat → Prop} {w w' : World} {B : Nat} (h : OffF F w w') (hF : ∀ b, F b → B ≤ b) (hB : B ≤ w.heap.size) : Below B w w' :=
  ⟨h.os, h.tape, h.output, h.size, fun b hb => h.block b (by omega) (fun q => by have := hF b q; omega)⟩
theorem OffF.of {F : Nat → Prop} {w w' : World} (h : Below w.heap.size w w') : OffF F w w' := ⟨h.os, h.tape, h.output, h.size, fun b hb _ => h.block b hb⟩
def findN (ns : List Nd) (x : Nd) : Nat := ns.findIdx (fun y => y.eqb x)
def putS (ns : List Nd) (x : Nd) : List Nd := if x.right ns.length then (if findN ns x < ns.length then ns else ns ++ [x]) else ns
def putId (ns : List Nd) (x : Nd) : Int := if x.right ns.length then (findN ns x : Int) else 0
def putE (ns : List Nd) (x : Nd) : Int := if x.right ns.length then 0 else 1
def madeS (l : List Nd) : List Nd := l.foldl putS []
theorem putS_le (ns : List Nd) (x : Nd) : (putS ns x).length ≤ ns.length + 1 := by
  unfold putS
  split
  · split
    · omega
    · rw [List.length_append]; simp
  · omega
theorem made_succ (l : List Nd) (i : Nat) (h : i < l.length) : madeS (l.take (i + 1)) = putS (madeS (l.take i)) (ndAt l i) := by
  unfold madeS
  rw [ndAt_lt h, List.take_add_one, List.getElem?_eq_getElem h, List.foldl_append]
  rfl
theorem made_le (l : List Nd) : (madeS l).length ≤ l.length := by
  have : ∀ (l ns : List Nd), (l.foldl putS ns).length ≤ ns.length + l.length := by
    intro l
    induction l with
    | nil => intro ns; simp
    | cons x l ih =>
      intro ns
      have h1 := ih (putS ns x)
      have h2 := putS_le ns x
      rw [List.foldl_cons, List.length_cons]
      omega
  show (l.foldl putS []).length ≤ l.length
  simpa using this l []
/-- Each node may stand where it stands, and no two are the same. -/
def FineN (ns : List Nd) : Prop := (∀ j, j < ns.length → (ndAt ns j).right j = true ∧ NdFit (ndAt ns j)) ∧ ∀ i j, i < ns.length → j < ns.length → ndAt ns i = ndAt ns j → i = j
theorem right_ok {x : Nd} {n : Nat} (h : x.right n = true) (hf : NdFit x) : NdOk x n := by
  unfold Nd.right aIn at h
  refine ⟨hf.2.1, fun hk => ?_, fun hk => ?_, fun hk => ?_⟩
  · rw [if_neg (by omega), if_neg (by omega), if_pos hk] at h
    simp only [Bool.and_eq_true, decide_eq_true_eq] at h
    omega
  · rw [if_neg (by omega), if_neg (by omega), if_neg (by omega), if_pos hk] at h
    simp only [Bool.and_eq_true, decide_eq_true_eq] at h
    omega
  · rw [if_neg (by omega), if_neg (by omega), if_neg (by omega), if_neg (by omega), if_pos hk] at h
    simp only [Bool.and_eq_true, decide_eq_true_eq] at h
    omega
theorem FineN.ok {ns : List Nd} (h : FineN ns) (j : Nat) (hj : j < ns.length) : NdOk (ndAt ns j) j := right_ok (h.1 j hj).1 (h.1 j hj).2
/-- The sets below a node, in the order of the numbers of their nodes; as far as the first j nodes. -/
def setsTo (ns : List Nd) (id : Nat) (j : Nat) : List St := ((List.range j).filter (fun i => decide ((ndAt ns i).kind = 2) && belowS ns i (id + 1) id)).map (fun i => (ndAt ns i).set)
theorem setsTo_yes {ns : List Nd} {id j : Nat} (hk : (ndAt ns j).kind = 2) (hb : belowS ns j (id + 1) id = true) : setsTo ns id (j + 1) = setsTo ns id j ++ [(ndAt ns j).set] := by
  unfold setsTo
  rw [List.range_succ, List.filter_append, List.map_append]
  simp [hk, hb]
theorem setsTo_no {ns : List Nd} {id j : Nat} (h : (ndAt ns j).kind ≠ 2 ∨ belowS ns j (id + 1) id = false) : setsTo ns id (j + 1) = setsTo ns id j := by
  unfold setsTo
  rw [List.range_succ, List.filter_append, List.map_append]
  rcases h with h | h <;> simp [h]
theorem setsTo_pre (ns : List Nd) (id : Nat) (j : Nat) : ∀ m, j ≤ m → ∃ r, setsTo ns id m = setsTo ns id j ++ r
  | 0, h => ⟨[], by rw [show j = 0 by omega, List.append_nil]⟩
  | m + 1, h => by
    by_cases e : j = m + 1
    · exact ⟨[], by rw [e, List.append_nil]⟩
    · obtain ⟨r, hr⟩ := setsTo_pre ns id j m (by omega)
      by_cases hc : (ndAt ns m).kind = 2 ∧ belowS ns m (id + 1) id = true
      · exact ⟨r ++ [(ndAt ns m).set], by rw [setsTo_yes hc.1 hc.2, hr, List.append_assoc]⟩
      · have hno : (ndAt ns m).kind ≠ 2 ∨ belowS ns m (id + 1) id = false := by
          by_cases hk : (ndAt ns m).kind = 2
          · right
            cases hb : belowS ns m (id + 1) id with
            | false => rfl
            | true => exact absurd ⟨hk, hb⟩ hc
          · exact Or.inl hk
        exact ⟨r, by rw [setsTo_no hno, hr]⟩
theorem setsTo_at {ns : List Nd} {id j : Nat} (hj : j < ns.length) (hk : (ndAt ns j).kind = 2) (hb : belowS ns j (id + 1) id = true) : (setsTo ns id j).length < (setsTo ns id ns.length).length ∧ (setsTo ns id ns.length)[(setsTo ns id j).length]? = some (ndAt ns j).set := by
  obtain ⟨r, hr⟩ := setsTo_pre ns id (j + 1) ns.length hj
  rw [setsTo_yes hk hb] at hr
  constructor
  · rw [hr, List.length_append, List.length_append, List.length_singleton]; omega
  · rw [hr, List.append_assoc, List.getElem?_append_right (Nat.le_refl _), Nat.sub_self]; rfl
theorem setsTo_le (ns : List Nd) (id j : Nat) : (setsTo ns id j).length ≤ j := by
  unfold setsTo
  rw [List.length_map]
  have := List.length_filter_le (fun i => decide ((ndAt ns i).kind = 2) && belowS ns i (id + 1) id) (List.range j)
  simpa using this
/-- What an arena does. AA w a ns F: at a lies an arena of the nodes ns, and all of it in blocks of F. -/
structure ArenaSpec (AA : World → Value → List Nd → (Nat → Prop) → Prop) : Prop where
  low : ∀ {w : World} {a : Value} {ns : List Nd} {F : Nat → Prop}, AA w a ns F → ∀ b, F b → b < w.heap.size
  keep : ∀ {w w' : World} {a : Value} {ns : List Nd} {F : Nat → Prop}, AA w a ns F → (∀ b, F b → w'.heap[b]? = w.heap[b]?) → AA w' a ns F
  fine : ∀ {w : World} {a : Value} {ns : List Nd} {F : Nat → Prop}, AA w a ns F → FineN ns
  new : ∀ w : World, Calls Try.prog 9 #[] w fun e w' => ∃ a F, e = .returned a ∧ AA w' a [] F ∧ (∀ b, F b → w.heap.size ≤ b) ∧ Below w.heap.size w w'
  put : ∀ {w : World} {a : Value} {ns : List Nd} {F : Nat → Prop} (x : Nd), AA w a ns F → NdFit x → ns.length ≤ 1000 → Calls Try.prog 10 #[a, .agg x.cs.toArray] w fun e w' => ∃ F', e = .returned (.tuple #[.int .i64 (putId ns x), .int .i64 (putE ns x)]) ∧ AA w' a (putS ns x) F' ∧ (∀ b, F' b → F b ∨ w.heap.size ≤ b) ∧ OffF F w w'
  len : ∀ {w : World} {a : Value} {ns : List Nd} {F : Nat → Prop}, AA w a ns F → ns.length ≤ 1000 → Calls Try.prog 12 #[a] w fun e w' => e = .returned (.int .i64 ns.length) ∧ ∃ q, w' = w.drewN q
  node : ∀ {w : World} {a : Value} {ns : List Nd} {F : Nat → Prop} (i : Int), AA w a ns F → I64 i → ns.length ≤ 1000 → Calls Try.prog 13 #[a, .int .i64 i] w fun e w' => ∃ y : Nd, e = .returned (.tuple #[.agg y.cs.toArray, .bool (decide (0 ≤ i ∧ i < ns.length))]) ∧ (0 ≤ i ∧ i < ns.length → y = ndAt ns i.toNat) ∧ Below w.heap.size w w'
  turn : ∀ {w : World} {a : Value} {ns : List Nd} {F : Nat → Prop} (i : Int), AA w a ns F → I64 i → ns.length ≤ 1000 → Calls Try.prog 15 #[a, .int .i64 i] w fun e w' => ∃ (x : Int) (more : List Nd) (F' : Nat → Prop), e = .returned (.int .i64 x) ∧ AA w' a (ns ++ more) F' ∧ more.length ≤ ns.length ∧ (∀ b, F' b → F b ∨ w.heap.size ≤ b) ∧ OffF F w w' ∧ (¬ (0 ≤ i ∧ i < ns.length) → x = -1 ∧ more = []) ∧ (0 ≤ i ∧ i < ns.length → ∃ f, TurnR (ns ++ more) f i x)
  sets : ∀ {w : World} {a : Value} {ns : List Nd} {F : Nat → Prop} (i : Int), AA w a ns F → I64 i → ns.length ≤ 1000 → Calls Try.prog 20 #[a, .int .i64 i] w fun e w' => ∃ A n c l, e = .returned (.slice A n c) ∧ IsSets w' A n l ∧ (0 ≤ i ∧ i < ns.length → l = setsTo ns i.toNat ns.length) ∧ (¬ (0 ≤ i ∧ i < ns.length) → l = []) ∧ Below w.heap.size w w'
/-- What a nil arena does. -/
structure NilSpec : Prop where
  put : ∀ (w : World) (x : Nd), NdFit x → Calls Try.prog 10 #[.pointer none, .agg x.cs.toArray] w fun e w' => e = .returned (.tuple #[.int .i64 0, .int .i64 1]) ∧ Below w.heap.size w w'
  node : ∀ (w : World) (i : Int), I64 i → Calls Try.prog 13 #[.pointer none, .int .i64 i] w fun e w' => ∃ y : Nd, e = .returned (.tuple #[.agg y.cs.toArray, .bool false]) ∧ Below w.heap.size w w'
  len : ∀ (w : World), Calls Try.prog 12 #[.pointer none] w fun e w' => e = .returned (.int .i64 0) ∧ Below w.heap.size w w'
  turn : ∀ (w : World) (i : Int), I64 i → Calls Try.prog 15 #[.pointer none, .int .i64 i] w fun e w' => e = .returned (.int .i64 (-1)) ∧ Below w.heap.size w w'
  sets : ∀ (w : World) (i : Int), I64 i → Calls Try.prog 20 #[.pointer none, .int .i64 i] w fun e w' => ∃ A c, e = .returned (.slice A 0 c) ∧ Below w.heap.size w w'
section
variable {AA : World → Value → List Nd → (Nat → Prop) → Prop}
theorem ArenaSpec.next (S : ArenaSpec AA) {w w' : World} {a : Value} {ns : List Nd} {F : Nat → Prop} (h : AA w a ns F) (hb : Below w.heap.size w w') : AA w' a ns F := S.keep h (fun b q => hb.block b (S.low h b q))
end

end Go.Proofs.Ytoicbahkoejhjaa
