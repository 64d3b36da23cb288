/- Lists of sets that are appended to: 'append(append([]api.Set{}, sets...), s)', step by step in a statement whose order is open. -/
import Derived.Test.YthmppooefajpgaaProg
import Derived.Test.YthmppooefajpgaaWords
import Derived.Test.YthmppooefajpgaaCl
import Derived.Test.YthmppooefajpgaaPart
import Derived.Test.YthmppooefajpgaaMake
import Derived.Test.YthmppooefajpgaaMore
import Derived.Deep.AppendSrc
import Derived.Deep.AppendLies
import Derived.Laws.OwnMore
import Derived.Deep.RegionHeld3
namespace Go.Proofs.Ythmppooefajpgaa
open Go.RowKit

/-- The words of a list of sets, one behind the other. -/
def quads (l : List St) : List Value := (List.range (l.length * 4)).map (fun j => .int .u64 (((l[j / 4]?).getD ⟨0, 0, 0, 0⟩).word (j % 4) : Nat))
def quad (s : St) : List Value := [.int .u64 s.w0, .int .u64 s.w1, .int .u64 s.w2, .int .u64 s.w3]
theorem quads_length (l : List St) : (quads l).length = l.length * 4 := by simp [quads]
theorem quads_get (l : List St) (j : Nat) (h : j < l.length * 4) : (quads l)[j]? = some (.int .u64 (((l[j / 4]?).getD ⟨0, 0, 0, 0⟩).word (j % 4) : Nat)) := by simp [quads, h]
theorem quads_at (l : List St) (k i : Nat) (h : k < l.length) (hi : i < 4) : (quads l)[k * 4 + i]? = some (.int .u64 (l[k].word i : Nat)) := by
  rw [quads_get _ _ (by omega), show (k * 4 + i) / 4 = k from by omega, show (k * 4 + i) % 4 = i from by omega, List.getElem?_eq_getElem h]; rfl
theorem quads_snoc (l : List St) (s : St) : quads l ++ quad s = quads (l ++ [s]) := by
  apply List.ext_getElem?
  intro j
  by_cases h : j < l.length * 4
  · rw [List.getElem?_append_left (by rw [quads_length]; exact h), quads_get _ _ h, quads_get _ _ (by rw [List.length_append]; omega), List.getElem?_append_left (by omega)]
  · rw [List.getElem?_append_right (by rw [quads_length]; omega), quads_length]
    by_cases h2 : j < l.length * 4 + 4
    · rw [quads_get _ _ (by rw [List.length_append]; simp; omega), List.getElem?_append_right (by omega)]
      obtain ⟨i, rfl, hi⟩ : ∃ i, j = l.length * 4 + i ∧ i < 4 := ⟨j - l.length * 4, by omega, by omega⟩
      rw [show l.length * 4 + i - l.length * 4 = i from by omega, show (l.length * 4 + i) / 4 - l.length = 0 from by omega, show (l.length * 4 + i) % 4 = i from by omega]
      have : i = 0 ∨ i = 1 ∨ i = 2 ∨ i = 3 := by omega
      rcases this with rfl | rfl | rfl | rfl <;> rfl
    · rw [List.getElem?_eq_none (by simp [quad]; omega), List.getElem?_eq_none (by rw [quads_length, List.length_append]; simp; omega)]
theorem quads_one (l : List St) : ∀ u ∈ quads l, u.oneCell' = true := by
  intro u hu
  simp [quads] at hu
  obtain ⟨j, _, rfl⟩ := hu
  rfl
theorem IsSets.news {w : World} {b off n : Nat} {l : List St} (h : IsSets w (some ⟨b, off, none⟩) n l) (hn : 0 < n) : ∀ j u, (quads l)[j]? = some u → w.cell? ((⟨b, off, none⟩ : Addr).add j) = some u := by
  intro j u hu
  have hj : j < l.length * 4 := by have := (List.getElem?_eq_some_iff.1 hu).1; rwa [quads_length] at this
  obtain ⟨b', off', e, _, hc⟩ := h.2.2.2 hn
  injection e with e
  injection e with e1 e2
  subst e1; subst e2
  have hk : j / 4 < l.length := by omega
  obtain ⟨c0, c1, c2, c3⟩ := hc (j / 4) hk
  have hadd : (⟨b, off, none⟩ : Addr).add j = ⟨b, off + j, none⟩ := by unfold Addr.add; split <;> simp_all
  rw [hadd, ← hu, quads_get _ _ hj, List.getElem?_eq_getElem hk]
  simp only [Option.getD_some]
  have hm : j % 4 = 0 ∨ j % 4 = 1 ∨ j % 4 = 2 ∨ j % 4 = 3 := by omega
  rcases hm with hm | hm | hm | hm <;> rw [hm]
  · rw [show off + j = off + j / 4 * 4 from by omega]; exact c0
  · rw [show off + j = off + j / 4 * 4 + 1 from by omega]; exact c1
  · rw [show off + j = off + j / 4 * 4 + 2 from by omega]; exact c2
  · rw [show off + j = off + j / 4 * 4 + 3 from by omega]; exact c3
/-- A list of sets in a row of the call's own. -/
def SetsRow (w : World) (base : Nat) (v : Value) (l : List St) : Prop := w.ownsRow base 33 4 v l.length (quads l)
theorem SetsRow.grown {w w' : World} {base : Nat} {v : Value} {l : List St} {row : Option Nat} (h : SetsRow w base v l) (hg : w.grownBy w' row) (hr : v.ownBlock = none ∨ v.ownBlock ≠ row) : SetsRow w' base v l := World.ownsRow.kept h hg hr
theorem grown_of_below {w w' : World} (hb : Below w.heap.size w w') (row : Option Nat) : w.grownBy w' row := ⟨hb.os, hb.tape, hb.output, hb.size, fun i hi _ => hb.block i hi⟩
theorem SetsRow.next {w w' : World} {base : Nat} {v : Value} {l : List St} (h : SetsRow w base v l) (hb : Below w.heap.size w w') : SetsRow w' base v l :=
  h.grown (grown_of_below hb none) (by cases hv : v.ownBlock <;> simp)
theorem SetsRow.step {w w0 w' : World} {base : Nat} {v : Value} {l : List St} (h : SetsRow w base v l) (hb : Below w0.heap.size w0 w') (e : w0.heap = w.heap) : SetsRow w' base v l := by
  have h0 : SetsRow w0 base v l := by unfold SetsRow World.ownsRow at h ⊢; rw [e]; exact h
  exact h0.next hb
theorem IsSets.step {w w0 w' : World} {A : Option Addr} {n : Nat} {l : List St} (h : IsSets w A n l) (hb : Below w0.heap.size w0 w') (e : w0.heap = w.heap) : IsSets w' A n l := by
  have h0 : IsSets w0 A n l := by
    refine ⟨h.1, h.2.1, h.2.2.1, fun hn => ?_⟩
    obtain ⟨b, off, ea, hlt, hc⟩ := h.2.2.2 hn
    have ec : ∀ p, w0.cell? p = w.cell? p := fun p => by unfold World.cell?; rw [e]
    exact ⟨b, off, ea, by rw [e]; exact hlt, fun k hk => by rw [ec, ec, ec, ec]; exact hc k hk⟩
  exact h0.next hb
theorem yieldsIf_load_at {P : Program} {ops : Array Oper} {S : World → Prop} {op : Oper} {a : Act} (hw : Region.wanted op (yielded ops a.tmps) = true) (ty : TypeId) (x : Operand) (ho : op.op = .load ty x)
    (g : Nat) (hx : a.eval x = .pointer (some ⟨g, 0, none⟩)) (cs : Array Value) (d : TypeDesc) (hS : ∀ w, S w → At w g ty cs)
    (hu : P.underlying ty = some d) (hd : (match d with | .struct _ | .array _ _ => true | _ => false) = true) (hi : (P.info? ty).map (·.size) = some cs.size) : YieldsIf P ops S op (.agg cs) a :=
  .inl ⟨hw, fun w hw' => by
    unfold execOp
    simp only [ho, hx, Instr.loadAt, Instr.sureAddr, Sem.run_bind, Sem.run_pure, Result.andThen_ok, run_loadVar_row w g ty ty cs (0, 0) d (hS w hw') hu hd hi]⟩
theorem clMakeV (A : Option Addr) (n c : Nat) (l : List St) (X : Cl) (hX : Cl.make l = X) (w : World) (h : IsSets w A n l) :
    Calls Try.prog 6 #[.slice A n c] w fun e w' => e = .returned (.agg X.cells) ∧ Below w.heap.size w w' := by
  rw [← hX]; exact clMake A n c l w h
theorem At.grown {w w' : World} {g : Nat} {t : TypeId} {cs : Array Value} {row : Option Nat} (h : At w g t cs) (hg : w.grownBy w' row) (hr : some g ≠ row) : At w' g t cs := (hg.block g h.lt hr).trans h
theorem below_grown {W w w' : World} {B : Nat} {row : Option Nat} (h : Below B W w) (hs : B ≤ w.heap.size) (hg : w.grownBy w' row) (hr : ∀ k, row = some k → B ≤ k) : Below B W w' :=
  ⟨hg.os.trans h.os, hg.tape.trans h.tape, hg.output.trans h.output, Nat.le_trans h.size hg.size, fun i hi => (hg.block i (by omega) (fun e => by have := hr i e.symm; omega)).trans (h.block i hi)⟩
theorem SetsRow.sets {w : World} {base g n cap : Nat} {l : List St} (h : SetsRow w base (.slice (some ⟨g, 0, none⟩) n cap) l) (hn : n = l.length) (hm : n ≤ 9223372036854775807) (hok : ∀ (k : Nat) (h : k < l.length), l[k].Ok) (hlt : g < w.heap.size) : IsSets w (some ⟨g, 0, none⟩) n l := by
  subst hn
  refine ⟨rfl, hm, hok, fun _ => ⟨g, 0, rfl, hlt, fun k hk => ?_⟩⟩
  have hc : ∀ i, i < 4 → w.cell? ⟨g, k * 4 + i, none⟩ = some (.int .u64 (l[k].word i : Nat)) := fun i hi => by
    rw [World.ownsRow.cellAt h (k * 4 + i) (by omega), quads_at l k i hk hi]
  simp only [Nat.zero_add]
  exact ⟨hc 0 (by omega), hc 1 (by omega), hc 2 (by omega), hc 3 (by omega)⟩

theorem info_set : (Try.prog.info? 33).map (fun i => (i.zero, i.size, i.bytes)) = some (some (.agg #[.int .u64 0, .int .u64 0, .int .u64 0, .int .u64 0]), 4, 32) := by kernel_rfl
theorem info_set' : ∃ i, Try.prog.info? 33 = some i ∧ i.zero = some (.agg #[.int .u64 0, .int .u64 0, .int .u64 0, .int .u64 0]) ∧ i.size = 4 ∧ i.bytes = 32 := by
  have h := info_set
  cases hq : Try.prog.info? 33 with
  | none => simp [hq] at h
  | some i => simp [hq] at h; exact ⟨i, rfl, h.1, h.2.1, h.2.2⟩

/-- 'append([]api.Set{}, sets...)'. -/
theorem append_sets (w : World) (base g : Nat) (A : Option Addr) (n c : Nat) (l : List St) (ty : TypeId) (h4 : At w g 33 #[]) (hb : base ≤ g) (hbw : base ≤ w.heap.size) (hI : IsSets w A n l) (hn : n ≤ 30) :
    ∃ v w', (Builtin.append_ #[22, 22] ty #[.slice (some ⟨g, 0, none⟩) 0 0, .slice A n c]).run Try.prog w = .ok v w' ∧ (SetsRow w' base v l ∧ w.grownBy w' (some g)) := by
  obtain ⟨i, hi, hz, hsz, hby⟩ := info_set'
  have hl : l.length = n := hI.1.symm
  have hown : w.ownsRow base 33 4 (.slice (some ⟨g, 0, none⟩) 0 0) 0 [] := ⟨rfl, .inr ⟨g, 0, #[], rfl, hb, h4, Nat.le_refl _, Nat.zero_le _, rfl, rfl⟩⟩
  by_cases h0 : n = 0
  · have hlz : l = [] := List.eq_nil_of_length_eq_zero (by omega)
    subst hlz
    subst h0
    have hsrc : Src Try.prog i.size 22 (.slice A 0 c) 0 [] w := by
      cases A with
      | none => exact Src.ofNil w Try.underlying22 c
      | some a => exact Src.ofSlice w Try.underlying22 a 0 c [] (by simp) (by simp) (by simp)
    have hr := run_append_room_src w 22 22 ty 33 i Try.underlying22 hi g 0 0 0 (.slice A 0 c) 0 [] hsrc (by omega) (by simp) (by simp)
    exact ⟨_, _, hr, hown, ⟨rfl, rfl, rfl, Nat.le_refl _, fun _ _ _ => rfl⟩⟩
  · obtain ⟨b, off, rfl, _, _⟩ := hI.2.2.2 (by omega)
    obtain ⟨v', w', hr, h2, h3, _, _⟩ := run_append_own_at (P := Try.prog) w base 22 ty 33 i _ 4 32 Try.underlying22 hi hz hsz hby rfl (by omega) _ 0 [] hown ⟨b, off, none⟩ n c (quads l) (by rw [quads_length, hl]) (hI.news (by omega)) (quads_one l) (by unfold maxLen; omega) (by omega) hbw
    refine ⟨v', w', hr, ?_, h3⟩
    rw [Nat.zero_add, List.nil_append, ← hl] at h2
    exact h2
/-- 'append(.., s)'. -/
theorem append_set (w : World) (base g8 : Nat) (v : Value) (l : List St) (s : St) (ty : TypeId) (h6 : SetsRow w base v l) (h8 : At w g8 33 #[.int .u64 s.w0, .int .u64 s.w1, .int .u64 s.w2, .int .u64 s.w3]) (hbw : base ≤ w.heap.size) (hn : l.length ≤ 30)
    (hok : ∀ (k : Nat) (h : k < l.length), l[k].Ok) (hs : s.Ok) :
    ∃ v' w', (Builtin.append_ #[22, 22] ty #[v, .slice (some ⟨g8, 0, none⟩) 1 1]).run Try.prog w = .ok v' w' ∧
      ((∃ g cap, v' = .slice (some ⟨g, 0, none⟩) (l.length + 1) cap ∧ IsSets w' (some ⟨g, 0, none⟩) (l.length + 1) (l ++ [s])) ∧ w.grownBy w' v.ownBlock) := by
  obtain ⟨i, hi, hz, hsz, hby⟩ := info_set'
  obtain ⟨v', w', hr, h2, h3, _, _⟩ := run_append_own_at (P := Try.prog) w base 22 ty 33 i _ 4 32 Try.underlying22 hi hz hsz hby rfl (by omega) v l.length (quads l) h6 ⟨g8, 0, none⟩ 1 1 (quad s) rfl (World.news_of_block h8) (by intro u hu; simp [quad] at hu; rcases hu with rfl | rfl | rfl | rfl <;> rfl) (by unfold maxLen; omega) (by omega) hbw
  rw [quads_snoc] at h2
  obtain ⟨g, cap, rfl, _, hlt⟩ := h2.form (by omega)
  refine ⟨_, w', hr, ⟨g, cap, rfl, ?_⟩, h3⟩
  refine SetsRow.sets (base := base) (cap := cap) ?_ (by simp) (by omega) ?_ hlt
  · show w'.ownsRow base 33 4 _ (l ++ [s]).length _
    rw [List.length_append]; exact h2
  · intro k hk
    by_cases h : k < l.length
    · rw [List.getElem_append_left h]; exact hok k h
    · rw [List.getElem_append_right (by omega)]; simpa using hs

theorem run_slice0 (w : World) : (Instr.buildSlice 22 0 #[]).run Try.prog w = .ok (.slice (some ⟨w.heap.size, 0, none⟩) 0 0) (w.alloc (.cells #[] 33)) := by kernel_rfl
theorem run_slice1 (s : St) (w : World) : (Instr.buildSlice 22 1 #[(0, .agg #[.int .u64 s.w0, .int .u64 s.w1, .int .u64 s.w2, .int .u64 s.w3])]).run Try.prog w = .ok (.slice (some ⟨w.heap.size, 0, none⟩) 1 1) (w.alloc (.cells #[.int .u64 s.w0, .int .u64 s.w1, .int .u64 s.w2, .int .u64 s.w3] 33)) := by kernel_rfl
section
variable {ops : Array Oper} {o : Oper} {a : Act} {w : World} {K : Act → World → Prop} {Q : Exit → Act → World → Prop} {E : Prop}
theorem step_value {P : Program} (hgd : o.guard = none) (v : Value) (w' : World) (hr : (execOp a.eval o).run P w = .ok (.value v) w') (h : K (a.put o.dst v) w') : if Region.wanted o (yielded ops a.tmps) = true then Oper.wp P o a w K Q else E := by
  have hw : Region.wanted o (yielded ops a.tmps) = true := by simp [Region.wanted, hgd]
  rw [if_pos hw]
  unfold Oper.wp
  rw [hr]
  exact h
theorem step_append_any {P : Program} (hgd : o.guard = none) (s x : Operand) (t : TypeId) (ho : o.op = .call { callee := .builtin .append, args := #[s, x], argTypes := #[t, t] }) (v1 v2 : Value) (hs : a.eval s = v1) (hx : a.eval x = v2) {R : Value → World → Prop}
    (hrun : ∃ v w', (Builtin.append_ #[t, t] o.type #[v1, v2]).run P w = .ok v w' ∧ R v w') (h : ∀ v w', R v w' → K (a.put o.dst v) w') : if Region.wanted o (yielded ops a.tmps) = true then Oper.wp P o a w K Q else E := by
  obtain ⟨v, w', hr, hR⟩ := hrun
  refine step_value hgd v w' ?_ (h v w' hR)
  unfold execOp
  simp only [ho, resolve, invoke, builtin, Sem.run_bind, Sem.run_pure, Result.andThen_ok, List.map_toArray, List.map_cons, List.map_nil, hs, hx, hr]
theorem step_slice0 (hgd : o.guard = none) (ho : o.op = .buildSlice 22 0 #[]) (h : ∀ g w', At w' g 33 #[] → Below w.heap.size w w' → w.heap.size ≤ g → K (a.put o.dst (.slice (some ⟨g, 0, none⟩) 0 0)) w') : if Region.wanted o (yielded ops a.tmps) = true then Oper.wp Try.prog o a w K Q else E := by
  refine step_value hgd (.slice (some ⟨w.heap.size, 0, none⟩) 0 0) (w.alloc (.cells #[] 33)) ?_ (h _ _ (At.new _ _ _) ((Below.refl _ _).alloc (Nat.le_refl _) _) (Nat.le_refl _))
  unfold execOp
  simp only [ho, List.map_toArray, List.map_nil, Sem.run_bind, run_slice0, Result.andThen_ok, Sem.run_pure]
theorem step_slice1 (hgd : o.guard = none) (x : Operand) (s : St) (ho : o.op = .buildSlice 22 1 #[(0, x)]) (hx : a.eval x = .agg #[.int .u64 s.w0, .int .u64 s.w1, .int .u64 s.w2, .int .u64 s.w3]) (h : ∀ g w', At w' g 33 #[.int .u64 s.w0, .int .u64 s.w1, .int .u64 s.w2, .int .u64 s.w3] → Below w.heap.size w w' → w.heap.size ≤ g → K (a.put o.dst (.slice (some ⟨g, 0, none⟩) 1 1)) w') : if Region.wanted o (yielded ops a.tmps) = true then Oper.wp Try.prog o a w K Q else E := by
  refine step_value hgd (.slice (some ⟨w.heap.size, 0, none⟩) 1 1) (w.alloc (.cells #[.int .u64 s.w0, .int .u64 s.w1, .int .u64 s.w2, .int .u64 s.w3] 33)) ?_ (h _ _ (At.new _ _ _) ((Below.refl _ _).alloc (Nat.le_refl _) _) (Nat.le_refl _))
  unfold execOp
  simp only [ho, List.map_toArray, List.map_cons, List.map_nil, hx, Sem.run_bind, run_slice1, Result.andThen_ok, Sem.run_pure]
end

end Go.Proofs.Ythmppooefajpgaa
