/- Joined: FmOpMath, ArenaMade, NodeRow, ArenaB, NormSpec. -/
import Derived.Test.YthifbaacmohmnaaGreatMai
import Derived.Test.YthifbaacmohmnaaGreatMaj
import Derived.Test.YthifbaacmohmnaaGreatMaf
import Derived.Deep.AppendLies
import Derived.BigRegion
import Derived.BigQuiet
import Derived.Test.YthifbaacmohmnaaGreatMag
/- What the reference's Op answers is formed, and holds as it should. Mathematics. -/
namespace Go.Proofs.YthifbaacmohmnaaGreat
set_option linter.unusedVariables false
set_option linter.unusedSimpArgs false

theorem lex_total : ∀ a b : List Int, a.length = b.length → lexS a b = true ∨ lexS b a = true ∨ a = b
  | [], [], _ => Or.inr (Or.inr rfl)
  | [], _ :: _, h => by simp at h
  | _ :: _, [], h => by simp at h
  | x :: a, y :: b, h => by
    show (if x = y then lexS a b else decide (x < y)) = true ∨ (if y = x then lexS b a else decide (y < x)) = true ∨ _
    by_cases c : x = y
    · subst c
      rw [if_pos rfl, if_pos rfl]
      rcases lex_total a b (by simpa using h) with h | h | h
      · exact Or.inl h
      · exact Or.inr (Or.inl h)
      · exact Or.inr (Or.inr (by rw [h]))
    · rw [if_neg c, if_neg (fun e => c e.symm)]
      by_cases d : x < y
      · exact Or.inl (decide_eq_true d)
      · exact Or.inr (Or.inl (decide_eq_true (by omega)))
theorem less_total (a b : List Int) : lessS a b = true ∨ lessS b a = true ∨ a = b := by
  unfold lessS
  by_cases c : a.length = b.length
  · rw [if_pos c, if_pos c.symm]; exact lex_total a b c
  · rw [if_neg c, if_neg (fun e => c e.symm)]
    by_cases d : a.length < b.length
    · exact Or.inl (decide_eq_true d)
    · exact Or.inr (Or.inl (decide_eq_true (by omega)))
/- A sorted list, and what is put in its place. -/
section
variable {α : Type} {R : α → α → Bool} {l : List α} {y : α}
end
/- The numbers of formulas. -/
/- The ways of some numbers. -/
section
variable {l : List Int} {b b' : Nat}
end
end Go.Proofs.YthifbaacmohmnaaGreat

/- bolterlaw09.Made, bolterref09.Nodes, bolterlaw09.awake: by what an arena does. -/
namespace Go.Proofs.YthifbaacmohmnaaGreat
open Go.RowKit
set_option linter.unusedSimpArgs false
set_option linter.unusedVariables false
section
variable {AA : World → Value → List Nd → (Nat → Prop) → Prop}

end

end Go.Proofs.YthifbaacmohmnaaGreat

/- Nodes in a row of the call's own, appended to; bolterref09.Nodes by what an arena does. -/
namespace Go.Proofs.YthifbaacmohmnaaGreat
open Go.RowKit
set_option linter.unusedSimpArgs false
set_option linter.unusedVariables false

def ndL (l : List Nd) : List Value := l.flatMap Nd.cs
theorem ndL_at (l : List Nd) : ∀ (k i : Nat) (h : k < l.length), i < 8 → (ndL l)[k * 8 + i]? = (ndAt l k).cs[i]? := by
  induction l with
  | nil => intro k i h; exact absurd h (Nat.not_lt_zero _)
  | cons x l ih =>
    intro k i h hi
    show (x.cs ++ ndL l)[k * 8 + i]? = _
    cases k with
    | zero => rw [Nat.zero_mul, Nat.zero_add, List.getElem?_append_left (by rw [Nd.cs_length]; exact hi)]; rfl
    | succ k =>
      rw [List.getElem?_append_right (by rw [Nd.cs_length]; omega), Nd.cs_length, show (k + 1) * 8 + i - 8 = k * 8 + i by omega, ih k i (by simpa using h) hi]
      rfl
theorem ndL_snoc (l : List Nd) (x : Nd) : ndL l ++ x.cs = ndL (l ++ [x]) := by unfold ndL; rw [List.flatMap_append]; simp
section
variable {w w' : World} {base : Nat} {v : Value} {l : List Nd}
def NdRow (w : World) (base : Nat) (v : Value) (l : List Nd) : Prop := w.ownsRow base 61 8 v l.length (ndL l)
theorem NdRow.nil (w : World) (base : Nat) : NdRow w base (.slice none 0 0) [] := World.ownsRow_nil w base _ 8
theorem NdRow.grown {row : Option Nat} (h : NdRow w base v l) (hg : w.grownBy w' row) (hr : v.ownBlock = none ∨ v.ownBlock ≠ row) : NdRow w' base v l := World.ownsRow.kept h hg hr
theorem NdRow.next (h : NdRow w base v l) (hb : Below w.heap.size w w') : NdRow w' base v l :=
  World.ownsRow.kept (row := none) h (below_grown hb none) (by cases hv : v.ownBlock <;> simp)
theorem NdRow.alloc (h : NdRow w base v l) (o : Obj) : NdRow (w.alloc o) base v l := World.ownsRow.alloc h o
theorem NdRow.low (h : NdRow w base v l) : ∀ g, v.ownBlock = some g → base ≤ g := fun g hg => (World.ownsRow.lt h g hg).1
theorem NdRow.push {x : Nd} (h : w.ownsRow base 61 8 v (l.length + 1) (ndL l ++ x.cs)) : NdRow w base v (l ++ [x]) := by
  unfold NdRow
  rw [List.length_append, ← ndL_snoc]
  exact h
theorem NdRow.len (h : NdRow w base v l) : ∃ A cap, v = .slice A l.length cap := by
  rcases h.2 with ⟨rfl, hn⟩ | ⟨g, cap, cur, rfl, _⟩
  · exact ⟨none, 0, by rw [hn]⟩
  · exact ⟨_, _, rfl⟩
theorem NdRow.nds (h : NdRow w base v l) (hl : l.length ≤ 9223372036854775807) : NdsAt w v l := by
  obtain ⟨A, cap, rfl⟩ := h.len
  refine ⟨A, cap, rfl, hl, fun h0 => ?_⟩
  obtain ⟨g, cap', e, _, hg⟩ := World.ownsRow.form h h0
  injection e with e1 _ e3
  subst e1
  refine ⟨g, 0, rfl, hg, fun j hj i u hu => ?_⟩
  have hi : i < 8 := by
    have := (List.getElem?_eq_some_iff.1 hu).1
    rwa [Nd.cs_length] at this
  rw [Nat.zero_add, World.ownsRow.cellAt h (j * 8 + i) (by omega), ndL_at l j i hj hi]
  exact hu
end
theorem info_node : (Tryz.prog.info? 61).map (fun i => (i.zero, i.size, i.bytes)) = some (some (.agg Nd.zero.cs.toArray), 8, 64) := by kernel_rfl
theorem take_succ_nd (ns : List Nd) (j : Nat) (h : j < ns.length) : ns.take (j + 1) = ns.take j ++ [ndAt ns j] := by
  rw [ndAt_lt h, List.take_add_one, List.getElem?_eq_getElem h]; rfl
section
variable {AA : World → Value → List Nd → (Nat → Prop) → Prop}

end

end Go.Proofs.YthifbaacmohmnaaGreat

/- What an arena does that other packages build on, up to its full size: New, Put, Len, Node; bolterlaw09.Made and bolterref09.Nodes by it. -/
namespace Go.Proofs.YthifbaacmohmnaaGreat
open Go.RowKit
set_option linter.unusedSimpArgs false
set_option linter.unusedVariables false

structure ArenaBig (AA : World → Value → List Nd → (Nat → Prop) → Prop) : Prop where
  low : ∀ {w : World} {a : Value} {ns : List Nd} {F : Nat → Prop}, AA w a ns F → ∀ b, F b → b < w.heap.size
  keep : ∀ {w w' : World} {a : Value} {ns : List Nd} {F : Nat → Prop}, AA w a ns F → (∀ b, F b → w'.heap[b]? = w.heap[b]?) → AA w' a ns F
  fine : ∀ {w : World} {a : Value} {ns : List Nd} {F : Nat → Prop}, AA w a ns F → FineN ns
  max : ∀ {w : World} {a : Value} {ns : List Nd} {F : Nat → Prop}, AA w a ns F → ns.length ≤ 20000
  ptr : ∀ {w : World} {a : Value} {ns : List Nd} {F : Nat → Prop}, AA w a ns F → ∃ g, a = .pointer (some ⟨g, 0, none⟩)
  new : ∀ w : World, Calls Tryz.prog 18 #[] w fun e w' => ∃ a F, e = .returned a ∧ AA w' a [] F ∧ (∀ b, F b → w.heap.size ≤ b) ∧ Below w.heap.size w w'
  put : ∀ {w : World} {a : Value} {ns : List Nd} {F : Nat → Prop} (x : Nd), AA w a ns F → NdFit x → ns.length < 20000 → Calls Tryz.prog 23 #[a, .agg x.cs.toArray] w fun e w' => ∃ F', e = .returned (.tuple #[.int .i64 (putId ns x), .int .i64 (putE ns x)]) ∧ AA w' a (putS ns x) F' ∧ (∀ b, F' b → F b ∨ w.heap.size ≤ b) ∧ OffF F w w'
  len : ∀ {w : World} {a : Value} {ns : List Nd} {F : Nat → Prop}, AA w a ns F → Calls Tryz.prog 9 #[a] w fun e w' => e = .returned (.int .i64 ns.length) ∧ ∃ q, w' = w.drewN q
  node : ∀ {w : World} {a : Value} {ns : List Nd} {F : Nat → Prop} (i : Int), AA w a ns F → I64 i → Calls Tryz.prog 36 #[a, .int .i64 i] w fun e w' => ∃ y : Nd, e = .returned (.tuple #[.agg y.cs.toArray, .bool (decide (0 ≤ i ∧ i < ns.length))]) ∧ (0 ≤ i ∧ i < ns.length → y = ndAt ns i.toNat) ∧ Below w.heap.size w w'
section
variable {AA : World → Value → List Nd → (Nat → Prop) → Prop}
theorem ArenaBig.next (S : ArenaBig AA) {w w' : World} {a : Value} {ns : List Nd} {F : Nat → Prop} (h : AA w a ns F) (hb : Below w.heap.size w w') : AA w' a ns F := S.keep h (fun b q => hb.block b (S.low h b q))

set_option maxRecDepth 100000 in
set_option maxHeartbeats 4000000 in
theorem lawMadeB (S : ArenaBig AA) (l : List Nd) (v0 : Value) (hl : l.length ≤ 19000) (w : World) (hv : NdsAt w v0 l) (hf : ∀ j, j < l.length → NdFit (ndAt l j)) :
    Calls Tryz.prog 7 #[v0] w fun e w' => ∃ a F, e = .returned a ∧ AA w' a (madeS l) F ∧ (∀ b, F b → w.heap.size ≤ b) ∧ Below w.heap.size w w' := by
  have HV := Lib.hid hv
  obtain ⟨A0, c0, rfl, _, _⟩ := HV.out
  have HF := Lib.hid hf
  clear hv hf
  go_enter Tryz.func7, Tryz.ntmps7
  go_wp2_with fail
  refine (S.new w).mono ?_
  rintro e w1 ⟨a, F1, rfl, hA1, hF1, hB1⟩
  have HA1 := Lib.hid hA1
  have HB1 := Lib.hid hB1
  have HF1 := Lib.hid hF1
  clear hA1 hB1 hF1
  go_wp2_with fail
  go_loopw [8] (fun x wr => ∃ (j : Nat) (F : Nat → Prop), j ≤ l.length ∧ x = .int .i64 j ∧ Hid (AA wr a (madeS (l.take j)) F) ∧ Hid (∀ b, F b → w.heap.size ≤ b) ∧ Hid (Below w.heap.size w wr)) (fun x _ => l.length - (intOf x).toNat)
  case atStart => exact ⟨0, F1, Nat.zero_le _, rfl, HA1, HF1, HB1⟩
  case round =>
    clear HA1 HF1 HB1
    obtain ⟨j, F, hj, rfl, HA, HG, HB⟩ := hrel
    by_cases hjl : j < l.length
    · have hjz : (0 : Int) ≤ (j : Int) := by omega
      have hjn : (j : Int) < (l.length : Int) := by omega
      obtain ⟨A', cap, e1, _, h3⟩ := HV.out.next HB.out
      injection e1 with e1 _ e3
      subst e1
      subst e3
      obtain ⟨b, off, rfl, hbb, hr⟩ := h3 (by omega)
      have HR := Lib.hid (hr j hjl)
      have HFx := Lib.hid (HF.out j hjl)
      have HM := Lib.hid (made_succ l j hjl)
      obtain ⟨x, hx⟩ : ∃ x, ndAt l j = x := ⟨_, rfl⟩
      rw [hx] at HR HFx HM
      have hlen : (madeS (l.take j)).length ≤ 19000 := by have := made_le (l.take j); rw [List.length_take] at this; omega
      clear hr hbb h3 hx
      go_wp2_with (first
        | (with_reducible show wpList _ _ _ ({ dst := some 15, op := .load _ _, type := _, pos := _, after := _, guard := _ } :: _) _ _
           refine wpList_load_mid rfl 61 _ rfl b (off + j * 8) rfl x.cs _ HR.out Tryz.underlying61 rfl (by rw [Nd.cs_length]; kernel_rfl) ?_)
        | fail)
      refine (S.put x HA.out HFx.out (by omega)).mono ?_
      rintro e w4 ⟨F2, rfl, hA2, hF2, ho2⟩
      have HA2 := Lib.hid hA2
      have HG2 : Hid (∀ b, F2 b → w.heap.size ≤ b) := Lib.hid (fun b q => by rcases hF2 b q with h | h; exact HG.out b h; exact Nat.le_trans HB.out.size h)
      have HB2 := Lib.hid (HB.out.trans (ho2.below HG.out HB.out.size))
      clear hA2 hF2 ho2
      rw [← HM.out] at HA2
      go_wp2_with fail
      refine ⟨⟨j + 1, F2, by omega, by go_num, HA2, HG2, HB2⟩, by simp [intOf]; omega⟩
    · obtain rfl : j = l.length := by omega
      go_wp2_with fail
      go_ret
      exact ⟨a, F, rfl, by have := HA.out; rw [List.take_length] at this; exact this, HG.out, HB.out⟩

set_option maxRecDepth 100000 in
set_option maxHeartbeats 4000000 in
theorem refNodesB (S : ArenaBig AA) (ns : List Nd) (a : Value) (F : Nat → Prop) (hl : ns.length ≤ 20000) (w : World) (h : AA w a ns F) :
    Calls Tryz.prog 12 #[a] w fun e w' => ∃ v, e = .returned v ∧ NdRow w' w.heap.size v ns ∧ Below w.heap.size w w' := by
  have HA := Lib.hid h
  clear h
  obtain ⟨i0, hi0, hz0, hz1, hz2⟩ := info_parts info_node
  go_enter Tryz.func12, Tryz.ntmps12
  go_wp2_with fail
  refine (S.len HA.out).mono ?_
  rintro e w1 ⟨rfl, q1, rfl⟩
  have HB1 := Lib.hid (below_drewN' (Below.refl w.heap.size w) q1)
  go_wp2_with fail
  go_loopw [3, 9] (fun v x wr => ∃ (j : Nat), j ≤ ns.length ∧ x = .int .i64 j ∧ Hid (NdRow wr w.heap.size v (ns.take j)) ∧ Hid (Below w.heap.size w wr)) (fun _ x _ => ns.length - (intOf x).toNat)
  case atStart => exact ⟨0, Nat.zero_le _, rfl, Lib.hid (NdRow.nil _ _), HB1⟩
  case round =>
    clear HB1
    obtain ⟨j, hj, rfl, HR, HB⟩ := hrel
    by_cases hjl : j < ns.length
    · have hjz : (0 : Int) ≤ (j : Int) := by omega
      have hjn : (j : Int) < (ns.length : Int) := by omega
      have HT := Lib.hid (take_succ_nd ns j hjl)
      have HTl : Hid ((ns.take j).length = j) := Lib.hid (by rw [List.length_take]; omega)
      go_wp2_with fail
      refine (S.node (j : Int) (S.next HA.out HB.out) (by unfold I64; omega)).mono ?_
      rintro e w4 ⟨y, rfl, hy, hb4⟩
      rw [Int.toNat_natCast] at hy
      rw [← hy ⟨by omega, by omega⟩] at HT
      have HB4 := Lib.hid (HB.out.trans (hb4.mono HB.out.size))
      have HR4 := Lib.hid (HR.out.next hb4)
      have HXb := Lib.hid (boxN_at w4 y)
      have HBb := Lib.hid (boxN_next w4 y)
      have HRb := Lib.hid (HR4.out.next HBb.out)
      have HBs := Lib.hid (HB4.out.trans (HBb.out.mono HB4.out.size))
      have hone := Nd.one y
      have hcl : y.cs.length = 8 := rfl
      have hs5 := HBs.out.size
      clear hy hb4
      go_wp2_with (first
        | (with_reducible show wpList _ _ _ ({ dst := none, op := .store _ _ _, type := _, pos := _, after := _, guard := _ } :: _) _ _
           refine wpList_store_row rfl 61 _ _ rfl w4.heap.size y.cs.toArray rfl rfl 61 Nd.zero.cs.toArray (At.new _ _ _) (by kernel_rfl) rfl hone ?_
           first | change wpList _ _ _ _ _ (boxN w4 y) | change Exit.then _ _ _ _ (boxN w4 y))
        | (with_reducible show wpList _ _ _ ({ dst := _, op := .load 61 (.tmp 5), type := _, pos := _, after := _, guard := _ } :: _) _ _
           refine wpList_load_row_want (by rfl) 61 _ rfl w4.heap.size rfl 61 y.cs.toArray (0, 0) _ HXb.out Tryz.underlying61 rfl (by rw [List.size_toArray, Nd.cs_length]; kernel_rfl) ?_)
        | (at_builtin
           refine wpList_append_own _ rfl _ _ _ rfl w.heap.size 61 i0 _ 8 64 Tryz.underlying22 hi0 hz0 hz1 hz2 rfl (by omega) u3 _ _ rfl (HRb.out.alloc _) ⟨_, 0, none⟩ 1 1 y.cs rfl rfl ?c1 ?c2 ?c3 ?c4 ?c5 ?_
           case c1 => exact (World.news_of_block (At.new _ _ _))
           case c2 => simp [Nd.cs, Value.oneCell']
           case c3 => rw [HTl.out]; unfold maxLen; omega
           case c4 => rw [HTl.out]; omega
           case c5 => simp; omega
           intro v' w6 hown6 hg6 _)
        | fail)
      refine ⟨⟨j + 1, by omega, by go_num, Lib.hid ?_, Lib.hid ((HBs.out.alloc hs5 _).grown hg6 (by simp; omega) (fun g hg => HRb.out.low g hg))⟩, by simp [intOf]; omega⟩
      rw [HT.out]; exact NdRow.push hown6
    · obtain rfl : ns.length = j := by omega
      go_wp2_with fail
      go_ret
      exact ⟨_, rfl, by have := HR.out; rw [List.take_length] at this; exact this, HB.out⟩
end

end Go.Proofs.YthifbaacmohmnaaGreat

/- What putting nodes together does, said of any way to read an arena out of the memory. -/
namespace Go.Proofs.YthifbaacmohmnaaGreat
open Go.RowKit
set_option linter.unusedVariables false

/-- A list of whole numbers, as it is read. -/
def ListAt (w : World) (v : Value) (l : List Int) : Prop :=
  ∃ A c, v = .slice A l.length c ∧ (0 < l.length → ∃ b off, A = some ⟨b, off, none⟩ ∧ b < w.heap.size ∧ ∀ (j : Nat) (h : j < l.length), w.cell? ⟨b, off + j, none⟩ = some (.int .i64 l[j]))
/-- An answer r, by which nodes may have come. -/
def Grows (AA : World → Value → List Nd → (Nat → Prop) → Prop) (w : World) (a : Value) (ns : List Nd) (F : Nat → Prop) (R : List Nd → Int → Prop) (e : Ending) (w' : World) : Prop :=
  ∃ (r : Int) (more : List Nd) (F' : Nat → Prop), e = .returned (.int .i64 r) ∧ AA w' a (ns ++ more) F' ∧ (∀ b, F' b → F b ∨ w.heap.size ≤ b) ∧ OffF F w w' ∧ Canon (ns ++ more) ∧ isIn (ns ++ more) r ∧ R more r
/-- How many parts a Cat has. -/
def catN (ns : List Nd) (x : Int) : Nat := ((catV ns x).getD []).length
def memN (ns : List Nd) (k : Int) (l : List Int) : Nat := (l.map (fun x => (mem ns k x).length)).sum
/-- Whether a node matches nothing at a place at which those looks are true. -/
def nullS (ns : List Nd) (bits : Nat) (id : Int) : Bool := decide (0 ≤ id ∧ id < ns.length) && nodeT [] [bits] ns id 0 0
structure NormSpec (AA : World → Value → List Nd → (Nat → Prop) → Prop) : Prop where
  none : ∀ {w : World} {a : Value} {ns : List Nd} {F : Nat → Prop}, AA w a ns F → Canon ns → ns.length + 4 ≤ 20000 → Calls Tryz.prog 83 #[a] w (Grows AA w a ns F fun more r => kd (ns ++ more) r = 0 ∧ more.length ≤ 3)
  empty : ∀ {w : World} {a : Value} {ns : List Nd} {F : Nat → Prop}, AA w a ns F → Canon ns → ns.length + 4 ≤ 20000 → Calls Tryz.prog 22 #[a] w (Grows AA w a ns F fun more r => kd (ns ++ more) r = 1 ∧ more.length ≤ 3)
  all : ∀ {w : World} {a : Value} {ns : List Nd} {F : Nat → Prop}, AA w a ns F → Canon ns → ns.length + 4 ≤ 20000 → Calls Tryz.prog 131 #[a] w (Grows AA w a ns F fun more r => isAl (ns ++ more) r = true ∧ more.length ≤ 3)
  bytes : ∀ {w : World} {a : Value} {ns : List Nd} {F : Nat → Prop} (s : St), AA w a ns F → Canon ns → s.Ok → ns.length + 4 ≤ 20000 → Calls Tryz.prog 84 #[a, .agg #[.int .u64 s.w0, .int .u64 s.w1, .int .u64 s.w2, .int .u64 s.w3]] w (Grows AA w a ns F fun more r => (kd (ns ++ more) r = 0 ∨ kd (ns ++ more) r = 2) ∧ more.length ≤ 3)
  look : ∀ {w : World} {a : Value} {ns : List Nd} {F : Nat → Prop} (k : Int) (neg : Bool), AA w a ns F → Canon ns → I64 k → 0 ≤ k ∧ k < 4 → ns.length + 4 ≤ 20000 → Calls Tryz.prog 135 #[a, .int .i64 k, .bool neg] w (Grows AA w a ns F fun more r => kd (ns ++ more) r = 8 ∧ more.length ≤ 3)
  lookNo : ∀ {w : World} {a : Value} {ns : List Nd} {F : Nat → Prop} (k : Int) (neg : Bool), AA w a ns F → Canon ns → I64 k → ¬ (0 ≤ k ∧ k < 4) → ns.length + 4 ≤ 20000 → Calls Tryz.prog 135 #[a, .int .i64 k, .bool neg] w fun e w' => e = .returned (.int .i64 (-1)) ∧ AA w' a ns F ∧ OffF F w w'
  cat : ∀ {w : World} {a : Value} {ns : List Nd} {F : Nat → Prop} (x y : Int), AA w a ns F → Canon ns → isIn ns x → isIn ns y → ns.length + catN ns x + 4 ≤ 20000 → Calls Tryz.prog 123 #[a, .int .i64 x, .int .i64 y] w (Grows AA w a ns F fun more r => CatR (ns ++ more) x y r ∧ more.length ≤ catN ns x + 3 ∧ ((∃ r0, CatR ns x y r0) → more.length ≤ 3))
  or : ∀ {w : World} {a v : Value} {ns : List Nd} {F : Nat → Prop} (l : List Int), AA w a ns F → Canon ns → ListAt w v l → (∀ x ∈ l, isIn ns x) → ns.length + memN ns 4 l + 4 ≤ 20000 → Calls Tryz.prog 87 #[a, v] w (Grows AA w a ns F fun more r => JoinR (ns ++ more) 4 l r ∧ more.length ≤ memN ns 4 l + 3 ∧ ((∃ r0, JoinR ns 4 l r0) → more.length ≤ 3))
  and : ∀ {w : World} {a v : Value} {ns : List Nd} {F : Nat → Prop} (l : List Int), AA w a ns F → Canon ns → ListAt w v l → (∀ x ∈ l, isIn ns x) → ns.length + memN ns 5 l + 4 ≤ 20000 → Calls Tryz.prog 88 #[a, v] w (Grows AA w a ns F fun more r => JoinR (ns ++ more) 5 l r ∧ more.length ≤ memN ns 5 l + 3 ∧ ((∃ r0, JoinR ns 5 l r0) → more.length ≤ 3))
  not : ∀ {w : World} {a : Value} {ns : List Nd} {F : Nat → Prop} (x : Int), AA w a ns F → Canon ns → isIn ns x → ns.length + 4 ≤ 20000 → Calls Tryz.prog 89 #[a, .int .i64 x] w (Grows AA w a ns F fun more r => NotR (ns ++ more) x r ∧ more.length ≤ 3)
  star : ∀ {w : World} {a : Value} {ns : List Nd} {F : Nat → Prop} (x : Int), AA w a ns F → Canon ns → isIn ns x → ns.length + 4 ≤ 20000 → Calls Tryz.prog 133 #[a, .int .i64 x] w (Grows AA w a ns F fun more r => StarR (ns ++ more) x r ∧ more.length ≤ 3)
  null : ∀ {w : World} {a : Value} {ns : List Nd} {F : Nat → Prop} (id : Int) (bits : Nat), AA w a ns F → I64 id → bits < 256 → Calls Tryz.prog 67 #[a, .int .i64 id, .int .u8 bits] w fun e w' => e = .returned (.bool (nullS ns bits id)) ∧ Below w.heap.size w w'
theorem canon_nil : Canon [] where
  fine := ⟨fun j hj => absurd hj (Nat.not_lt_zero _), fun i j hi => absurd hi (Nat.not_lt_zero _)⟩
  cat := fun x hx => by unfold isIn at hx; simp at hx; omega
  join := fun k _ x hx => by unfold isIn at hx; simp at hx; omega
  not := fun x hx => by unfold isIn at hx; simp at hx; omega
  star := fun x hx => by unfold isIn at hx; simp at hx; omega
  bytes := fun x hx => by unfold isIn at hx; simp at hx; omega

end Go.Proofs.YthifbaacmohmnaaGreat
