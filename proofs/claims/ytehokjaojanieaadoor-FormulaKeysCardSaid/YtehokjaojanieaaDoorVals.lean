/- Values of one cell each in a row: as they are read, and in a row of the call's own; appended in regions that draw their order. Of no type in particular. -/
import Derived.Test.YtehokjaojanieaaDoorFm
import Derived.Laws.OwnMore
import Derived.Deep.AppendLies
import Derived.Deep.OwnRows
import Derived.Deep.RegionHeld3
import Derived.Maps.AppendAt
namespace Go.Proofs.YtehokjaojanieaaDoor
open Go.RowKit
set_option linter.unusedVariables false
set_option linter.unusedSimpArgs false

def ValsAt (w : World) (v : Value) (xs : List Value) : Prop :=
  ∃ A c, v = .slice A xs.length c ∧ (A = none → c = 0) ∧ (xs.length ≤ c ∧ c ≤ 9223372036854775807) ∧ (0 < xs.length → ∃ b off, A = some ⟨b, off, none⟩ ∧ b < w.heap.size ∧ ∀ j (h : j < xs.length), w.cell? ⟨b, off + j, none⟩ = some xs[j])
def VRow (w : World) (base : Nat) (E : TypeId) (v : Value) (xs : List Value) : Prop := w.ownsRow base E 1 v xs.length xs
section
variable {w w' : World} {base : Nat} {E : TypeId} {v : Value} {xs ys : List Value}
theorem ValsAt.next (h : ValsAt w v xs) (hb : Below w.heap.size w w') : ValsAt w' v xs := by
  obtain ⟨A, c, h1, h2, hc, h3⟩ := h
  refine ⟨A, c, h1, h2, hc, fun h0 => ?_⟩
  obtain ⟨b, off, e, hlt, hr⟩ := h3 h0
  exact ⟨b, off, e, Nat.lt_of_lt_of_le hlt hb.size, fun j hj => ((bcell hb).1 b _ hlt).trans (hr j hj)⟩
theorem ValsAt.drew (h : ValsAt w v xs) : ValsAt w.drew v xs := h
theorem ValsAt.nil (w : World) : ValsAt w (.slice none 0 0) [] := ⟨none, 0, rfl, fun _ => rfl, ⟨Nat.le_refl 0, by omega⟩, fun h => absurd h (Nat.lt_irrefl 0)⟩
theorem ValsAt.zero (w : World) (A : Option Addr) (c : Nat) (hA : A = none → c = 0) (hc : c ≤ 9223372036854775807) : ValsAt w (.slice A 0 c) [] := ⟨A, c, rfl, hA, ⟨Nat.zero_le _, hc⟩, fun h => absurd h (Nat.lt_irrefl 0)⟩
theorem ValsAt.len {A : Option Addr} {n c : Nat} (h : ValsAt w (.slice A n c) xs) : n = xs.length := by obtain ⟨A', c', h1, _⟩ := h; injection h1
theorem ValsAt.take {A : Option Addr} {n c : Nat} (h : ValsAt w (.slice A n c) xs) (k : Nat) (hk : k ≤ xs.length) : ValsAt w (.slice A k c) (xs.take k) := by
  obtain ⟨A', c', e, h2, hc, h3⟩ := h
  injection e with e1 _ e3
  subst e1 e3
  refine ⟨A, c, by rw [List.length_take, Nat.min_eq_left hk], h2, by rw [List.length_take, Nat.min_eq_left hk]; omega, fun h0 => ?_⟩
  rw [List.length_take, Nat.min_eq_left hk] at h0
  obtain ⟨b, off, e, hlt, hr⟩ := h3 (by omega)
  refine ⟨b, off, e, hlt, fun j hj => ?_⟩
  rw [List.length_take, Nat.min_eq_left hk] at hj
  rw [List.getElem_take]
  exact hr j (by omega)
theorem ValsAt.drop {A : Option Addr} {n c b off : Nat} (h : ValsAt w (.slice A n c) xs) (hA : A = some ⟨b, off, none⟩) (k d : Nat) (hk : k ≤ xs.length) (hd : d = c - k) : ValsAt w (.slice (some ⟨b, off + k, none⟩) (xs.length - k) d) (xs.drop k) := by
  obtain ⟨A', c', e, h2, hc, h3⟩ := h
  injection e with e1 _ e3
  subst e1 e3
  have hc' : xs.length - k ≤ d ∧ d ≤ 9223372036854775807 := ⟨by rw [hd]; exact Nat.sub_le_sub_right hc.1 k, by rw [hd]; exact Nat.le_trans (Nat.sub_le _ _) hc.2⟩
  refine ⟨some ⟨b, off + k, none⟩, d, by rw [List.length_drop], (fun q => by cases q), by rw [List.length_drop]; exact hc', fun h0 => ?_⟩
  rw [List.length_drop] at h0
  obtain ⟨b', off', e, hlt, hr⟩ := h3 (by omega)
  rw [hA] at e
  injection e with e
  injection e with e4 e5 _
  subst e4 e5
  refine ⟨b, off + k, rfl, hlt, fun j hj => ?_⟩
  rw [List.length_drop] at hj
  rw [List.getElem_drop, Nat.add_assoc]
  exact hr (k + j) (by omega)
theorem VRow.vals (h : VRow w base E v xs) : ValsAt w v xs := by
  rcases h.2 with ⟨rfl, hn⟩ | ⟨g, cap, cur, rfl, hb, hc, r1, r2, _⟩
  · exact ⟨none, 0, by rw [hn], fun _ => rfl, by omega, fun h0 => by omega⟩
  · unfold maxLen at r2
    refine ⟨_, _, rfl, fun q => by (cases q), ⟨r1, r2⟩, fun h0 => ⟨g, 0, rfl, (Array.getElem?_eq_some_iff.1 hc).1, fun j hj => ?_⟩⟩
    rw [Nat.zero_add, World.ownsRow.cellAt h j (by omega), List.getElem?_eq_getElem hj]
theorem VRow.low (h : VRow w base E v xs) : ∀ g, v.ownBlock = some g → base ≤ g := fun g hg => (World.ownsRow.lt h g hg).1
theorem VRow.next (h : VRow w base E v xs) (hb : Below w.heap.size w w') : VRow w' base E v xs :=
  World.ownsRow.kept (row := none) h ⟨hb.os, hb.tape, hb.output, hb.size, fun i hi _ => hb.block i hi⟩ (by cases hv : v.ownBlock <;> simp)
theorem VRow.empty {g : Nat} (h4 : At w g E #[]) (hb : base ≤ g) : VRow w base E (.slice (some ⟨g, 0, none⟩) 0 0) [] := ⟨rfl, .inr ⟨g, 0, #[], rfl, hb, h4, Nat.le_refl _, Nat.zero_le _, rfl, rfl⟩⟩
theorem VRow.start (w : World) (base : Nat) (E : TypeId) : VRow w base E (.slice none 0 0) [] := World.ownsRow_nil w base _ 1
theorem ValsAt.cap {A : Option Addr} {n c : Nat} (h : ValsAt w (.slice A n c) xs) : xs.length ≤ c ∧ c ≤ 9223372036854775807 := by obtain ⟨A', c', h1, _, h2, _⟩ := h; injection h1 with _ _ h3; subst h3; exact h2
theorem one_vals {g : Nat} {u : Value} (h : At w g E #[u]) : ValsAt w (.slice (some ⟨g, 0, none⟩) 1 1) [u] :=
  ⟨_, 1, rfl, (fun q => by cases q), by simp, fun _ => ⟨g, 0, rfl, h.lt, fun j hj => by
    obtain rfl : j = 0 := by simpa using hj
    simpa using h.cell 0⟩⟩
end
theorem at_keep {w w' : World} {g : Nat} {t : TypeId} {cs : Array Value} {row : Option Nat} (h : At w g t cs) (hg : w.grownBy w' row) (hr : row ≠ some g) : At w' g t cs := (hg.block g h.lt (fun e => hr e.symm)).trans h
theorem below_gr {W w w' : World} {B : Nat} {row : Option Nat} (h : Below B W w) (hs : B ≤ w.heap.size) (hg : w.grownBy w' row) (hr : ∀ k, row = some k → B ≤ k) : Below B W w' :=
  ⟨hg.os.trans h.os, hg.tape.trans h.tape, hg.output.trans h.output, Nat.le_trans h.size hg.size, fun i hi => (hg.block i (by omega) (fun e => by have := hr i e.symm; omega)).trans (h.block i hi)⟩
set_option maxRecDepth 100000 in
/-- 'append(.., l...)', l of any length. -/
theorem append_vals {T E : TypeId} {i : TypeInfo} {z : Value} {bytes : Nat} (hT : Tryd.prog.underlying T = some (.slice E)) (hi : Tryd.prog.info? E = some i) (hz : i.zero = some z) (hsz : i.size = 1) (hby : i.bytes = bytes) (hzs : z.cells.size = 1) (hb64 : bytes ≤ 64)
    (w : World) (base : Nat) (v : Value) (xs ys : List Value) (A : Option Addr) (n c : Nat) (ty : TypeId) (h6 : VRow w base E v xs) (hbw : base ≤ w.heap.size) (hI : ValsAt w (.slice A n c) ys) (h1 : ∀ u ∈ ys, u.oneCell' = true) (hl : xs.length + ys.length ≤ 4000000) :
    ∃ v' w', (Builtin.append_ #[T, T] ty #[v, .slice A n c]).run Tryd.prog w = .ok v' w' ∧ (VRow w' base E v' (xs ++ ys) ∧ w.grownBy w' v.ownBlock) := by
  obtain rfl := hI.len
  obtain ⟨A', c', e1, h2, _, h3⟩ := id hI
  injection e1 with e1 _ e3
  subst e1 e3
  cases A with
  | none =>
    obtain rfl := h2 rfl
    have h0 : ys = [] := by
      by_cases h0 : 0 < ys.length
      · obtain ⟨b, off, e, _⟩ := h3 h0; cases e
      · exact List.eq_nil_of_length_eq_zero (by omega)
    subst h0
    refine ⟨v, w, run_append_owned_none (P := Tryd.prog) (w := w) base T ty E i 1 hT hi v xs.length xs h6, by rw [List.append_nil]; exact h6, ⟨rfl, rfl, rfl, Nat.le_refl _, fun _ _ _ => rfl⟩⟩
  | some ad =>
    obtain ⟨v', w', hr, q2, q3, _, _⟩ := run_append_own_at (P := Tryd.prog) w base T ty E i z 1 bytes hT hi hz hsz hby hzs (by omega) v xs.length xs h6 ad ys.length c ys (by omega) (fun j u hu => by
      obtain ⟨hj, rfl⟩ := List.getElem?_eq_some_iff.1 hu
      obtain ⟨b, off, e, _, hc⟩ := h3 (by omega)
      injection e with e
      subst e
      rw [show (⟨b, off, none⟩ : Addr).add j = ⟨b, off + j, none⟩ by unfold Addr.add; split <;> simp_all]
      exact hc j hj) h1 (by unfold maxLen; omega) (by have := Nat.mul_le_mul hl hb64; omega) hbw
    refine ⟨v', w', hr, ?_, q3⟩
    show w'.ownsRow base E 1 v' (xs ++ ys).length _
    rw [List.length_append]
    exact q2
section
variable {ops : Array Oper} {o : Oper} {a : Act} {w : World} {K : Act → World → Prop} {Q : Exit → Act → World → Prop} {X : Prop}
theorem stepv_value {P : Program} (hgd : o.guard = none) (v : Value) (w' : World) (hr : (execOp a.eval o).run P w = .ok (.value v) w') (h : K (a.put o.dst v) w') : if Region.wanted o (yielded ops a.tmps) = true then Oper.wp P o a w K Q else X := by
  have hw : Region.wanted o (yielded ops a.tmps) = true := by simp [Region.wanted, hgd]
  rw [if_pos hw]
  unfold Oper.wp
  rw [hr]
  exact h
theorem stepv_append {P : Program} (hgd : o.guard = none) (s x : Operand) (t : TypeId) (ho : o.op = .call { callee := .builtin .append, args := #[s, x], argTypes := #[t, t] }) (v1 v2 : Value) (hs : a.eval s = v1) (hx : a.eval x = v2) {R : Value → World → Prop}
    (hrun : ∃ v w', (Builtin.append_ #[t, t] o.type #[v1, v2]).run P w = .ok v w' ∧ R v w') (h : ∀ v w', R v w' → K (a.put o.dst v) w') : if Region.wanted o (yielded ops a.tmps) = true then Oper.wp P o a w K Q else X := by
  obtain ⟨v, w', hr, hR⟩ := hrun
  refine stepv_value hgd v w' ?_ (h v w' hR)
  unfold execOp
  simp only [ho, resolve, invoke, builtin, Sem.run_bind, Sem.run_pure, Result.andThen_ok, List.map_toArray, List.map_cons, List.map_nil, hs, hx, hr]
theorem stepv_slice0 (T E : TypeId) (hgd : o.guard = none) (ho : o.op = .buildSlice T 0 #[]) (hrun : ∀ w, (Instr.buildSlice T 0 #[]).run Tryd.prog w = .ok (.slice (some ⟨w.heap.size, 0, none⟩) 0 0) (w.alloc (.cells #[] E)))
    (h : ∀ g w', At w' g E #[] → Below w.heap.size w w' → w.heap.size ≤ g → K (a.put o.dst (.slice (some ⟨g, 0, none⟩) 0 0)) w') : if Region.wanted o (yielded ops a.tmps) = true then Oper.wp Tryd.prog o a w K Q else X := by
  refine stepv_value hgd (.slice (some ⟨w.heap.size, 0, none⟩) 0 0) (w.alloc (.cells #[] E)) ?_ (h _ _ (At.new _ _ _) ((Below.refl _ _).alloc (Nat.le_refl _) _) (Nat.le_refl _))
  unfold execOp
  simp only [ho, List.map_toArray, List.map_nil, Sem.run_bind, hrun, Result.andThen_ok, Sem.run_pure]
theorem stepv_slice1 (T E : TypeId) (hgd : o.guard = none) (x : Operand) (u : Value) (ho : o.op = .buildSlice T 1 #[(0, x)]) (hx : a.eval x = u) (hrun : ∀ w, (Instr.buildSlice T 1 #[(0, u)]).run Tryd.prog w = .ok (.slice (some ⟨w.heap.size, 0, none⟩) 1 1) (w.alloc (.cells #[u] E)))
    (h : ∀ g w', At w' g E #[u] → Below w.heap.size w w' → w.heap.size ≤ g → K (a.put o.dst (.slice (some ⟨g, 0, none⟩) 1 1)) w') : if Region.wanted o (yielded ops a.tmps) = true then Oper.wp Tryd.prog o a w K Q else X := by
  refine stepv_value hgd (.slice (some ⟨w.heap.size, 0, none⟩) 1 1) (w.alloc (.cells #[u] E)) ?_ (h _ _ (At.new _ _ _) ((Below.refl _ _).alloc (Nat.le_refl _) _) (Nat.le_refl _))
  unfold execOp
  simp only [ho, List.map_toArray, List.map_cons, List.map_nil, hx, Sem.run_bind, hrun, Result.andThen_ok, Sem.run_pure]
end
theorem run_ints0 (w : World) : (Instr.buildSlice 32 0 #[]).run Tryd.prog w = .ok (.slice (some ⟨w.heap.size, 0, none⟩) 0 0) (w.alloc (.cells #[] 3)) := by kernel_rfl
theorem run_ints1 (x : Int) (w : World) : (Instr.buildSlice 32 1 #[(0, .int .i64 x)]).run Tryd.prog w = .ok (.slice (some ⟨w.heap.size, 0, none⟩) 1 1) (w.alloc (.cells #[.int .i64 x] 3)) := by kernel_rfl
theorem run_fms0 (w : World) : (Instr.buildSlice 22 0 #[]).run Tryd.prog w = .ok (.slice (some ⟨w.heap.size, 0, none⟩) 0 0) (w.alloc (.cells #[] 32)) := by kernel_rfl
theorem run_fms1 (A : Option Addr) (n c : Nat) (w : World) : (Instr.buildSlice 22 1 #[(0, .slice A n c)]).run Tryd.prog w = .ok (.slice (some ⟨w.heap.size, 0, none⟩) 1 1) (w.alloc (.cells #[.slice A n c] 32)) := by kernel_rfl
theorem info_ints : (Tryd.prog.info? 3).map (fun i => (i.zero, i.size, i.bytes)) = some (some (.int .i64 0), 1, 8) := by kernel_rfl
theorem info_fms : (Tryd.prog.info? 32).map (fun i => (i.zero, i.size, i.bytes)) = some (some (.slice none 0 0), 1, 24) := by kernel_rfl

end Go.Proofs.YtehokjaojanieaaDoor
