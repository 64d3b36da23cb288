/- bolterref21.Looks: the looks of a pattern, behind others; bare. -/
import Derived.Test.YtjkcbojlopdonaaRefSame
import Derived.Test.YtjkcbojlopdonaaMad
import Derived.Test.YtjkcbojlopdonaaMaj
import Derived.Test.YtjkcbojlopdonaaMak
import Derived.Deep.AppendSrc
namespace Go.Proofs.Ytjkcbojlopdonaa
open Go.RowKit
set_option linter.unusedSimpArgs false
set_option linter.unusedVariables false

def bareT : Tr → Tr | .node k s A n c p l h _ => .node k s A n c p l h false
theorem bareT_cs (t : Tr) : (bareT t).cs.toArray = t.cs.toArray.setIfInBounds 8 (.bool false) := by cases t; rfl
theorem bareT_in {w : World} : ∀ (k : Nat) (t : Tr), Tr.In w k t → Tr.In w k (bareT t)
  | 0, _, h => h.elim
  | k + 1, t, h => by cases t; exact h
def nodesN : Nat → Tr → Nat
  | 0, _ => 1
  | k + 1, t => 1 + (t.parts.map (nodesN k)).sum
theorem cfold_sum : ∀ (l : List Int) (n : Int), cfold l n ≤ 2000 → (∀ x ∈ l, 0 ≤ x) → n + l.sum ≤ cfold l n
  | [], n, _, _ => by show n + 0 ≤ n; omega
  | x :: r, n, h, hp => by
    have h' : (if 2000 < n + x then n + x else cfold r (n + x)) ≤ 2000 := h
    show n + (x :: r).sum ≤ (if 2000 < n + x then n + x else cfold r (n + x))
    split at h'
    · omega
    · rename_i hc
      rw [if_neg hc, List.sum_cons]
      have := cfold_sum r (n + x) h' (fun y hy => hp y (List.mem_cons_of_mem _ hy))
      omega
theorem few_nodes {w : World} : ∀ (k : Nat) (m : Int) (t : Tr), Tr.In w k t → 0 ≤ m → nodesS k m t ≤ 2000 → (nodesN k t : Int) ≤ nodesS k m t
  | 0, _, _, h, _, _ => h.elim
  | k + 1, m, t, h, hm, hc => by
    have e : nodesS (k + 1) m t = if m < 1 then 5000 else cfold (t.parts.map (nodesS k (m - 1))) 1 := rfl
    rw [e] at hc ⊢
    split at hc
    · omega
    · rename_i hm1
      rw [if_neg hm1]
      have hin : ∀ p ∈ t.parts, Tr.In w k p := fun p hp => by
        obtain ⟨j, hj, rfl⟩ := List.getElem_of_mem hp
        exact h.2.2.2 j hj
      have hpos : ∀ x ∈ t.parts.map (nodesS k (m - 1)), 1 ≤ x := by
        intro x hx
        rw [List.mem_map] at hx
        obtain ⟨p, hp, rfl⟩ := hx
        exact nodesS_pos k (m - 1) p (hin p hp) (by omega)
      obtain ⟨_, h2⟩ := cfold_few _ 1 hpos hc
      have hs := cfold_sum _ 1 hc (fun x hx => by have := hpos x hx; omega)
      have : ∀ l : List Tr, (∀ p ∈ l, (nodesN k p : Int) ≤ nodesS k (m - 1) p) → (((l.map (nodesN k)).sum : Nat) : Int) ≤ (l.map (nodesS k (m - 1))).sum := by
        intro l
        induction l with
        | nil => intro _; simp
        | cons p l ih =>
          intro hl
          rw [List.map_cons, List.map_cons, List.sum_cons, List.sum_cons]
          have h1 := hl p (by simp)
          have h2 := ih (fun q hq => hl q (List.mem_cons_of_mem _ hq))
          omega
      have := this t.parts (fun p hp => few_nodes k (m - 1) p (hin p hp) (by omega) (h2 _ (List.mem_map.2 ⟨p, hp, rfl⟩) (by omega)))
      show (((1 + (t.parts.map (nodesN k)).sum : Nat)) : Int) ≤ _
      omega
/-- A list of patterns, as it is read. -/
def Pats (w : World) (K : Nat) (v : Value) (L : List Tr) : Prop :=
  ∃ A c, v = .slice A L.length c ∧ (0 < L.length → ∃ b off, A = some ⟨b, off, none⟩ ∧ b < w.heap.size ∧ ∀ (j : Nat) (h : j < L.length), w.rangeAt b (off + j * 9) L[j].cs) ∧ ∀ t ∈ L, Tr.In w K t
theorem Pats.next {w w' : World} {K : Nat} {v : Value} {L : List Tr} (h : Pats w K v L) (hb : Below w.heap.size w w') : Pats w' K v L := by
  obtain ⟨A, c, h1, h2, h3⟩ := h
  refine ⟨A, c, h1, fun h0 => ?_, fun t ht => (h3 t ht).next hb⟩
  obtain ⟨b, off, e, hlt, hr⟩ := h2 h0
  exact ⟨b, off, e, Nat.lt_of_lt_of_le hlt hb.size, fun j hj => range_below (hr j hj) hlt (Nat.le_refl _) hb⟩
theorem Pats.nil (w : World) (K : Nat) : Pats w K (.slice none 0 0) [] := ⟨none, 0, rfl, fun h => absurd h (Nat.not_lt_zero _), fun t ht => by cases ht⟩
def csL (L : List Tr) : List Value := L.flatMap Tr.cs
theorem csL_length (L : List Tr) : (csL L).length = L.length * 9 := by
  induction L with
  | nil => rfl
  | cons x l ih => show (x.cs ++ csL l).length = _; rw [List.length_append, ih, Tr.cs_length, List.length_cons]; omega
theorem csL_at (L : List Tr) : ∀ (k i : Nat) (h : k < L.length), i < 9 → (csL L)[k * 9 + i]? = L[k].cs[i]? := by
  induction L with
  | nil => intro k i h; exact absurd h (Nat.not_lt_zero _)
  | cons x l ih =>
    intro k i h hi
    show (x.cs ++ csL l)[k * 9 + i]? = _
    cases k with
    | zero => rw [Nat.zero_mul, Nat.zero_add, List.getElem?_append_left (by rw [Tr.cs_length]; exact hi)]; rfl
    | succ k =>
      rw [List.getElem?_append_right (by rw [Tr.cs_length]; omega), Tr.cs_length, show (k + 1) * 9 + i - 9 = k * 9 + i by omega, ih k i (by simpa using h) hi]
      rfl
theorem csL_one (L : List Tr) : ∀ u ∈ csL L, u.oneCell' = true := by
  intro u hu
  unfold csL at hu
  rw [List.mem_flatMap] at hu
  obtain ⟨t, _, hu⟩ := hu
  simp [Tr.cs] at hu
  rcases hu with rfl | rfl | rfl | rfl | rfl | rfl | rfl | rfl | rfl <;> rfl
theorem csL_snoc (L : List Tr) (t : Tr) : csL L ++ t.cs = csL (L ++ [t]) := by unfold csL; rw [List.flatMap_append]; simp
def ResRow (w : World) (base : Nat) (v : Value) (L : List Tr) : Prop := w.ownsRow base 35 9 v L.length (csL L)
theorem info_reL : (Try.prog.info? 35).map (fun i => (i.zero, i.size, i.bytes)) = some (some (.agg Tr.blank.cs.toArray), 9, 88) := by kernel_rfl
theorem ResRow.pats {w : World} {base K : Nat} {v : Value} {L : List Tr} (h : ResRow w base v L) (hi : ∀ t ∈ L, Tr.In w K t) : Pats w K v L := by
  rcases h.2 with ⟨rfl, hn⟩ | ⟨g, cap, cur, rfl, hb, hc, r⟩
  · refine ⟨none, 0, by rw [hn], fun h0 => by omega, hi⟩
  · refine ⟨_, _, rfl, fun h0 => ⟨g, 0, rfl, (Array.getElem?_eq_some_iff.1 hc).1, fun j hj i u hu => ?_⟩, hi⟩
    have hi9 : i < 9 := by
      have := (List.getElem?_eq_some_iff.1 hu).1
      rwa [Tr.cs_length] at this
    rw [Nat.zero_add, World.ownsRow.cellAt h (j * 9 + i) (by omega), csL_at L j i hj hi9]
    exact hu
/-- 'append([]api.Re{}, l...)'. -/
theorem append_pats (w : World) (base g K : Nat) (A : Option Addr) (n c : Nat) (L : List Tr) (ty : TypeId) (h4 : At w g 35 #[]) (hb : base ≤ g) (hbw : base ≤ w.heap.size) (hP : Pats w K (.slice A n c) L) (hn : L.length ≤ 100000) :
    ∃ v w', (Builtin.append_ #[22, 22] ty #[.slice (some ⟨g, 0, none⟩) 0 0, .slice A n c]).run Try.prog w = .ok v w' ∧ (ResRow w' base v L ∧ w.grownBy w' (some g)) := by
  obtain ⟨i, hi, hz, hsz, hby⟩ := info_parts info_reL
  obtain ⟨A', c', e1, h2, _⟩ := hP
  injection e1 with e1 e2 e3
  subst e1 e2 e3
  have hown : w.ownsRow base 35 9 (.slice (some ⟨g, 0, none⟩) 0 0) 0 [] := ⟨rfl, .inr ⟨g, 0, #[], rfl, hb, h4, Nat.le_refl _, Nat.zero_le _, rfl, rfl⟩⟩
  by_cases h0 : L.length = 0
  · have hlz : L = [] := List.eq_nil_of_length_eq_zero h0
    subst hlz
    have hsrc : Src Try.prog i.size 22 (.slice A ([] : List Tr).length c) 0 [] w := by
      cases A with
      | none => exact Src.ofNil w Try.underlying22 c
      | some a => exact Src.ofSlice w Try.underlying22 a 0 c [] (by simp) (by simp) (by simp)
    have hr := run_append_room_src w 22 22 ty 35 i Try.underlying22 hi g 0 0 0 (.slice A ([] : List Tr).length c) 0 [] hsrc (by omega) (by simp) (by simp)
    exact ⟨_, _, hr, hown, ⟨rfl, rfl, rfl, Nat.le_refl _, fun _ _ _ => rfl⟩⟩
  · obtain ⟨b, off, rfl, _, hr9⟩ := h2 (by omega)
    have hnews : ∀ j u, (csL L)[j]? = some u → w.cell? ((⟨b, off, none⟩ : Addr).add j) = some u := by
      intro j u hu
      have hj : j < L.length * 9 := by have := (List.getElem?_eq_some_iff.1 hu).1; rwa [csL_length] at this
      have hk : j / 9 < L.length := by omega
      have hadd : (⟨b, off, none⟩ : Addr).add j = ⟨b, off + j, none⟩ := by unfold Addr.add; split <;> simp_all
      have q := csL_at L (j / 9) (j % 9) hk (by omega)
      rw [show j / 9 * 9 + j % 9 = j by omega] at q
      rw [hadd, show off + j = off + j / 9 * 9 + j % 9 by omega]
      exact hr9 (j / 9) hk (j % 9) u (by rw [← q]; exact hu)
    obtain ⟨v', w', hr, h2, h3, _, _⟩ := run_append_own_at (P := Try.prog) w base 22 ty 35 i _ 9 88 Try.underlying22 hi hz hsz hby rfl (by omega) _ 0 [] hown ⟨b, off, none⟩ L.length c (csL L) (csL_length L) hnews (csL_one L) (by unfold maxLen; omega) (by omega) hbw
    refine ⟨v', w', hr, ?_, h3⟩
    rw [Nat.zero_add, List.nil_append] at h2
    exact h2
/-- 'append(.., r)'. -/
theorem append_re (w : World) (base g8 : Nat) (v : Value) (L : List Tr) (t : Tr) (ty : TypeId) (h6 : ResRow w base v L) (h8 : At w g8 35 t.cs.toArray) (hbw : base ≤ w.heap.size) (hn : L.length ≤ 100000) :
    ∃ v' w', (Builtin.append_ #[22, 22] ty #[v, .slice (some ⟨g8, 0, none⟩) 1 1]).run Try.prog w = .ok v' w' ∧ (ResRow w' base v' (L ++ [t]) ∧ w.grownBy w' v.ownBlock) := by
  obtain ⟨i, hi, hz, hsz, hby⟩ := info_parts info_reL
  obtain ⟨v', w', hr, h2, h3, _, _⟩ := run_append_own_at (P := Try.prog) w base 22 ty 35 i _ 9 88 Try.underlying22 hi hz hsz hby rfl (by omega) v L.length (csL L) h6 ⟨g8, 0, none⟩ 1 1 t.cs rfl (World.news_of_block h8) (by have := csL_one [t]; simpa [csL] using this) (by unfold maxLen; omega) (by omega) hbw
  refine ⟨v', w', hr, ?_, h3⟩
  unfold ResRow
  rw [List.length_append, ← csL_snoc]
  exact h2
section
variable {ops : Array Oper} {o : Oper} {a : Act} {w : World} {K : Act → World → Prop} {Q : Exit → Act → World → Prop} {X : Prop}
theorem stepq_slice0 (hgd : o.guard = none) (ho : o.op = .buildSlice 22 0 #[]) (hrun : ∀ w, (Instr.buildSlice 22 0 #[]).run Try.prog w = .ok (.slice (some ⟨w.heap.size, 0, none⟩) 0 0) (w.alloc (.cells #[] 35)))
    (h : ∀ g w', At w' g 35 #[] → Below w.heap.size w w' → w.heap.size ≤ g → K (a.put o.dst (.slice (some ⟨g, 0, none⟩) 0 0)) w') : if Region.wanted o (yielded ops a.tmps) = true then Oper.wp Try.prog o a w K Q else X := by
  refine stepq_value hgd (.slice (some ⟨w.heap.size, 0, none⟩) 0 0) (w.alloc (.cells #[] 35)) ?_ (h _ _ (At.new _ _ _) ((Below.refl _ _).alloc (Nat.le_refl _) _) (Nat.le_refl _))
  unfold execOp
  simp only [ho, List.map_toArray, List.map_nil, Sem.run_bind, hrun, Result.andThen_ok, Sem.run_pure]
end
theorem run_re0 (w : World) : (Instr.buildSlice 22 0 #[]).run Try.prog w = .ok (.slice (some ⟨w.heap.size, 0, none⟩) 0 0) (w.alloc (.cells #[] 35)) := by kernel_rfl
theorem run_re1 (t : Tr) (w : World) : (Instr.buildSlice 22 1 #[(0, .agg t.cs.toArray)]).run Try.prog w = .ok (.slice (some ⟨w.heap.size, 0, none⟩) 1 1) (w.alloc (.cells t.cs.toArray 35)) := by kernel_rfl
theorem results_rowR {P : Program} {fn : Func} {p : Tmp} {ty : TypeId} (h : fn.results = #[.cell p ty]) (tmps : Array Value) (w : World) (g : Nat) (t : TypeId) (cs : Array Value) (fr : Nat × Nat) (d : TypeDesc)
    (hp : tmps.getD p undef = .pointer (some ⟨g, 0, none⟩)) (hg : w.heap[g]? = some (.cells cs t fr))
    (hu : P.underlying ty = some d) (hd : (match d with | .struct _ | .array _ _ => true | _ => false) = true) (hi : (P.info? ty).map (·.size) = some cs.size) :
    (results fn tmps).run P w = .ok (.agg cs) w := by
  have hp' : tmps[p]?.getD undef = .pointer (some ⟨g, 0, none⟩) := by simpa using hp
  simp [results, h, hp', asAddr, run_loadVar_row w g t ty cs fr d hg hu hd hi]

set_option maxRecDepth 100000 in
set_option maxHeartbeats 4000000 in
theorem refBare (t : Tr) (w : World) : Calls Try.prog 19 #[.agg t.cs.toArray] w fun e w' => e = .returned (.agg (bareT t).cs.toArray) ∧ Below w.heap.size w w' := by
  have hone := Tr.one (bareT t)
  have HB : Hid (Below w.heap.size w ((w.alloc (.cells (bareT t).cs.toArray 35)).alloc (.cells Tr.blank.cs.toArray 35))) := Lib.hid (((Below.refl _ _).alloc (Nat.le_refl _) _).alloc (by simp) _)
  have HA : Hid (At ((w.alloc (.cells (bareT t).cs.toArray 35)).alloc (.cells Tr.blank.cs.toArray 35)) w.heap.size 35 (bareT t).cs.toArray) := Lib.hid ((At.new w _ _).alloc _)
  have HZ : Hid (At ((w.alloc (.cells (bareT t).cs.toArray 35)).alloc (.cells Tr.blank.cs.toArray 35)) (w.heap.size + 1) 35 Tr.blank.cs.toArray) := Lib.hid (by
    have q := At.new (w.alloc (.cells (bareT t).cs.toArray 35)) 35 Tr.blank.cs.toArray
    rw [World.size_alloc] at q
    exact q)
  rw [bareT_cs] at HB HA HZ
  have q8 : ((w.alloc (.cells t.cs.toArray 35)).alloc (.cells Tr.blank.cs.toArray 35)).cell? ⟨w.heap.size, 8, none⟩ = some (.bool t.neg) := ((At.new w 35 t.cs.toArray).alloc _).cell 8
  have f8 : ((w.alloc (.cells t.cs.toArray 35)).alloc (.cells Tr.blank.cs.toArray 35)).frozen? ⟨w.heap.size, 8, none⟩ = false := ((At.new w 35 t.cs.toArray).alloc _).free 8
  change ((w.alloc (.cells t.cs.toArray 35)).alloc (.cells #[.int .i64 0, .int .u64 0, .int .u64 0, .int .u64 0, .int .u64 0, .slice none 0 0, .int .i64 0, .int .i64 0, .bool false] 35)).cell? _ = _ at q8
  change ((w.alloc (.cells t.cs.toArray 35)).alloc (.cells #[.int .i64 0, .int .u64 0, .int .u64 0, .int .u64 0, .int .u64 0, .slice none 0 0, .int .i64 0, .int .i64 0, .bool false] 35)).frozen? _ = _ at f8
  rw [bareT_cs] at hone ⊢
  go_enter Try.func19, Try.ntmps19
  go_wp2_with (first
    | (with_reducible show wpList _ _ _ ({ dst := some 4, op := .load _ _, type := _, pos := _, after := _, guard := _ } :: _) _ _
       refine wpList_load_row rfl 35 _ rfl w.heap.size rfl 35 (t.cs.toArray.setIfInBounds 8 (.bool false)) (0, 0) _ HA.out Try.underlying35 rfl (by rw [Array.size_setIfInBounds]; kernel_rfl) ?_)
    | (with_reducible show wpList _ _ _ ({ dst := none, op := .store 35 _ _, type := _, pos := _, after := _, guard := _ } :: _) _ _
       refine wpList_store_row rfl 35 _ _ rfl (w.heap.size + 1) (t.cs.toArray.setIfInBounds 8 (.bool false)) rfl rfl 35 Tr.blank.cs.toArray HZ.out (by kernel_rfl) (by rw [Array.size_setIfInBounds]; rfl) hone ?_)
    | fail)
  exact bodyPost_ret (results_rowR Try.results19 _ _ (w.heap.size + 1) 35 (t.cs.toArray.setIfInBounds 8 (.bool false)) (0, 0) _ rfl (At.row HZ.out _) Try.underlying35 rfl (by rw [Array.size_setIfInBounds]; kernel_rfl)) rfl ⟨rfl, below_row HB.out (Nat.le_succ _) _⟩

theorem tr_at_range {w : World} {g : Nat} {ty : TypeId} {t : Tr} (h : At w g ty t.cs.toArray) : w.rangeAt g 0 t.cs := fun j v hv => by
  rw [Nat.zero_add, h.cell]; simpa using hv
theorem ResRow.step {w w0 w' : World} {base : Nat} {v : Value} {L : List Tr} (h : ResRow w base v L) (hb : Below w0.heap.size w0 w') (e : w0.heap = w.heap) : ResRow w' base v L := by
  have h0 : ResRow w0 base v L := by unfold ResRow World.ownsRow at h ⊢; rw [e]; exact h
  exact World.ownsRow.kept (row := none) h0 ⟨hb.os, hb.tape, hb.output, hb.size, fun i hi _ => hb.block i hi⟩ (by cases hv : v.ownBlock <;> simp)
theorem any_take {α : Type} {l : List α} {f : α → Bool} {j : Nat} (h : j < l.length) : (l.take (j + 1)).any f = ((l.take j).any f || f l[j]) := by
  rw [List.take_succ_eq_append_getElem h, List.any_append, List.any_cons, List.any_nil, Bool.or_false]
theorem sumN_take {α : Type} {l : List α} {f : α → Nat} {j : Nat} (h : j < l.length) : ((l.take (j + 1)).map f).sum = ((l.take j).map f).sum + f l[j] := by
  rw [List.take_succ_eq_append_getElem h, List.map_append, List.sum_append, List.map_singleton, List.sum_singleton]
theorem sumN_take_le {α : Type} {l : List α} {f : α → Nat} : ∀ (j : Nat), ((l.take j).map f).sum ≤ (l.map f).sum := by
  induction l with
  | nil => intro j; simp
  | cons a l ih => intro j; cases j with
    | zero => simp
    | succ j => have := ih j; rw [List.take_succ_cons, List.map_cons, List.map_cons, List.sum_cons, List.sum_cons]; omega

end Go.Proofs.Ytjkcbojlopdonaa
