/- bolterref21.Looks: the looks of a pattern, behind others; bare. -/
import Derived.Test.YtcghclikkeajfaaGreatRefSame
import Derived.Test.YtcghclikkeajfaaGreatMp
import Derived.Test.YtcghclikkeajfaaGreatME
import Derived.Test.YtcghclikkeajfaaGreatMu
import Derived.Deep.AppendSrc
namespace Go.Proofs.YtcghclikkeajfaaGreat
open Go.RowKit
set_option linter.unusedSimpArgs false
set_option linter.unusedVariables false

def bareT : Tr → Tr | .node k s A n c p l h _ => .node k s A n c p l h false
theorem bareT_cs (t : Tr) : (bareT t).cs.toArray = t.cs.toArray.setIfInBounds 8 (.bool false) := by cases t; rfl
theorem bareT_in {w : World} : ∀ (k : Nat) (t : Tr), Tr.In w k t → Tr.In w k (bareT t)
  | 0, _, h => h.elim
  | k + 1, t, h => by cases t; exact h
/-- Has it a look? How many nodes has it? -/
def lookB : Nat → Tr → Bool
  | 0, _ => false
  | k + 1, t => decide (8 ≤ t.kind) || t.parts.any (lookB k)
def nodesN : Nat → Tr → Nat
  | 0, _ => 1
  | k + 1, t => 1 + (t.parts.map (nodesN k)).sum
theorem cfold_sum : ∀ (l : List Int) (n : Int), cfold l n ≤ 2000 → (∀ x ∈ l, 0 ≤ x) → n + l.sum ≤ cfold l n
  | [], n, _, _ => by show n + 0 ≤ n; omega
  | x :: r, n, h, hp => by
    have h' : (if 2000 < n + x then n + x else cfold r (n + x)) ≤ 2000 := h
    show n + (x :: r).sum ≤ (if 2000 < n + x then n + x else cfold r (n + x))
    split at h'
    · omega
    · rename_i hc
      rw [if_neg hc, List.sum_cons]
      have := cfold_sum r (n + x) h' (fun y hy => hp y (List.mem_cons_of_mem _ hy))
      omega
theorem few_nodes {w : World} : ∀ (k : Nat) (m : Int) (t : Tr), Tr.In w k t → 0 ≤ m → nodesS k m t ≤ 2000 → (nodesN k t : Int) ≤ nodesS k m t
  | 0, _, _, h, _, _ => h.elim
  | k + 1, m, t, h, hm, hc => by
    have e : nodesS (k + 1) m t = if m < 1 then 5000 else cfold (t.parts.map (nodesS k (m - 1))) 1 := rfl
    rw [e] at hc ⊢
    split at hc
    · omega
    · rename_i hm1
      rw [if_neg hm1]
      have hin : ∀ p ∈ t.parts, Tr.In w k p := fun p hp => by
        obtain ⟨j, hj, rfl⟩ := List.getElem_of_mem hp
        exact h.2.2.2 j hj
      have hpos : ∀ x ∈ t.parts.map (nodesS k (m - 1)), 1 ≤ x := by
        intro x hx
        rw [List.mem_map] at hx
        obtain ⟨p, hp, rfl⟩ := hx
        exact nodesS_pos k (m - 1) p (hin p hp) (by omega)
      obtain ⟨_, h2⟩ := cfold_few _ 1 hpos hc
      have hs := cfold_sum _ 1 hc (fun x hx => by have := hpos x hx; omega)
      have : ∀ l : List Tr, (∀ p ∈ l, (nodesN k p : Int) ≤ nodesS k (m - 1) p) → (((l.map (nodesN k)).sum : Nat) : Int) ≤ (l.map (nodesS k (m - 1))).sum := by
        intro l
        induction l with
        | nil => intro _; simp
        | cons p l ih =>
          intro hl
          rw [List.map_cons, List.map_cons, List.sum_cons, List.sum_cons]
          have h1 := hl p (by simp)
          have h2 := ih (fun q hq => hl q (List.mem_cons_of_mem _ hq))
          omega
      have := this t.parts (fun p hp => few_nodes k (m - 1) p (hin p hp) (by omega) (h2 _ (List.mem_map.2 ⟨p, hp, rfl⟩) (by omega)))
      show (((1 + (t.parts.map (nodesN k)).sum : Nat)) : Int) ≤ _
      omega
/-- A list of patterns, as it is read. -/
def Pats (w : World) (K : Nat) (v : Value) (L : List Tr) : Prop :=
  ∃ A c, v = .slice A L.length c ∧ (0 < L.length → ∃ b off, A = some ⟨b, off, none⟩ ∧ b < w.heap.size ∧ ∀ (j : Nat) (h : j < L.length), w.rangeAt b (off + j * 9) L[j].cs) ∧ ∀ t ∈ L, Tr.In w K t
theorem Pats.next {w w' : World} {K : Nat} {v : Value} {L : List Tr} (h : Pats w K v L) (hb : Below w.heap.size w w') : Pats w' K v L := by
  obtain ⟨A, c, h1, h2, h3⟩ := h
  refine ⟨A, c, h1, fun h0 => ?_, fun t ht => (h3 t ht).next hb⟩
  obtain ⟨b, off, e, hlt, hr⟩ := h2 h0
  exact ⟨b, off, e, Nat.lt_of_lt_of_le hlt hb.size, fun j hj => range_below (hr j hj) hlt (Nat.le_refl _) hb⟩
theorem Pats.nil (w : World) (K : Nat) : Pats w K (.slice none 0 0) [] := ⟨none, 0, rfl, fun h => absurd h (Nat.not_lt_zero _), fun t ht => by cases ht⟩
def csL (L : List Tr) : List Value := L.flatMap Tr.cs
theorem csL_length (L : List Tr) : (csL L).length = L.length * 9 := by
  induction L with
  | nil => rfl
  | cons x l ih => show (x.cs ++ csL l).length = _; rw [List.length_append, ih, Tr.cs_length, List.length_cons]; omega
theorem csL_at (L : List Tr) : ∀ (k i : Nat) (h : k < L.length), i < 9 → (csL L)[k * 9 + i]? = L[k].cs[i]? := by
  induction L with
  | nil => intro k i h; exact absurd h (Nat.not_lt_zero _)
  | cons x l ih =>
    intro k i h hi
    show (x.cs ++ csL l)[k * 9 + i]? = _
    cases k with
    | zero => rw [Nat.zero_mul, Nat.zero_add, List.getElem?_append_left (by rw [Tr.cs_length]; exact hi)]; rfl
    | succ k =>
      rw [List.getElem?_append_right (by rw [Tr.cs_length]; omega), Tr.cs_length, show (k + 1) * 9 + i - 9 = k * 9 + i by omega, ih k i (by simpa using h) hi]
      rfl
theorem csL_one (L : List Tr) : ∀ u ∈ csL L, u.oneCell' = true := by
  intro u hu
  unfold csL at hu
  rw [List.mem_flatMap] at hu
  obtain ⟨t, _, hu⟩ := hu
  simp [Tr.cs] at hu
  rcases hu with rfl | rfl | rfl | rfl | rfl | rfl | rfl | rfl | rfl <;> rfl
theorem csL_snoc (L : List Tr) (t : Tr) : csL L ++ t.cs = csL (L ++ [t]) := by unfold csL; rw [List.flatMap_append]; simp
def ResRow (w : World) (base : Nat) (v : Value) (L : List Tr) : Prop := w.ownsRow base 27 9 v L.length (csL L)
theorem info_reL : (Tryz.prog.info? 27).map (fun i => (i.zero, i.size, i.bytes)) = some (some (.agg Tr.blank.cs.toArray), 9, 88) := by kernel_rfl
theorem ResRow.pats {w : World} {base K : Nat} {v : Value} {L : List Tr} (h : ResRow w base v L) (hi : ∀ t ∈ L, Tr.In w K t) : Pats w K v L := by
  rcases h.2 with ⟨rfl, hn⟩ | ⟨g, cap, cur, rfl, hb, hc, r⟩
  · refine ⟨none, 0, by rw [hn], fun h0 => by omega, hi⟩
  · refine ⟨_, _, rfl, fun h0 => ⟨g, 0, rfl, (Array.getElem?_eq_some_iff.1 hc).1, fun j hj i u hu => ?_⟩, hi⟩
    have hi9 : i < 9 := by
      have := (List.getElem?_eq_some_iff.1 hu).1
      rwa [Tr.cs_length] at this
    rw [Nat.zero_add, World.ownsRow.cellAt h (j * 9 + i) (by omega), csL_at L j i hj hi9]
    exact hu
/-- 'append([]api.Re{}, l...)'. -/
theorem append_pats (w : World) (base g K : Nat) (A : Option Addr) (n c : Nat) (L : List Tr) (ty : TypeId) (h4 : At w g 27 #[]) (hb : base ≤ g) (hbw : base ≤ w.heap.size) (hP : Pats w K (.slice A n c) L) (hn : L.length ≤ 100000) :
    ∃ v w', (Builtin.append_ #[25, 25] ty #[.slice (some ⟨g, 0, none⟩) 0 0, .slice A n c]).run Tryz.prog w = .ok v w' ∧ (ResRow w' base v L ∧ w.grownBy w' (some g)) := by
  obtain ⟨i, hi, hz, hsz, hby⟩ := info_parts info_reL
  obtain ⟨A', c', e1, h2, _⟩ := hP
  injection e1 with e1 e2 e3
  subst e1 e2 e3
  have hown : w.ownsRow base 27 9 (.slice (some ⟨g, 0, none⟩) 0 0) 0 [] := ⟨rfl, .inr ⟨g, 0, #[], rfl, hb, h4, Nat.le_refl _, Nat.zero_le _, rfl, rfl⟩⟩
  by_cases h0 : L.length = 0
  · have hlz : L = [] := List.eq_nil_of_length_eq_zero h0
    subst hlz
    have hsrc : Src Tryz.prog i.size 25 (.slice A ([] : List Tr).length c) 0 [] w := by
      cases A with
      | none => exact Src.ofNil w Tryz.underlying25 c
      | some a => exact Src.ofSlice w Tryz.underlying25 a 0 c [] (by simp) (by simp) (by simp)
    have hr := run_append_room_src w 25 25 ty 27 i Tryz.underlying25 hi g 0 0 0 (.slice A ([] : List Tr).length c) 0 [] hsrc (by omega) (by simp) (by simp)
    exact ⟨_, _, hr, hown, ⟨rfl, rfl, rfl, Nat.le_refl _, fun _ _ _ => rfl⟩⟩
  · obtain ⟨b, off, rfl, _, hr9⟩ := h2 (by omega)
    have hnews : ∀ j u, (csL L)[j]? = some u → w.cell? ((⟨b, off, none⟩ : Addr).add j) = some u := by
      intro j u hu
      have hj : j < L.length * 9 := by have := (List.getElem?_eq_some_iff.1 hu).1; rwa [csL_length] at this
      have hk : j / 9 < L.length := by omega
      have hadd : (⟨b, off, none⟩ : Addr).add j = ⟨b, off + j, none⟩ := by unfold Addr.add; split <;> simp_all
      have q := csL_at L (j / 9) (j % 9) hk (by omega)
      rw [show j / 9 * 9 + j % 9 = j by omega] at q
      rw [hadd, show off + j = off + j / 9 * 9 + j % 9 by omega]
      exact hr9 (j / 9) hk (j % 9) u (by rw [← q]; exact hu)
    obtain ⟨v', w', hr, h2, h3, _, _⟩ := run_append_own_at (P := Tryz.prog) w base 25 ty 27 i _ 9 88 Tryz.underlying25 hi hz hsz hby rfl (by omega) _ 0 [] hown ⟨b, off, none⟩ L.length c (csL L) (csL_length L) hnews (csL_one L) (by unfold maxLen; omega) (by omega) hbw
    refine ⟨v', w', hr, ?_, h3⟩
    rw [Nat.zero_add, List.nil_append] at h2
    exact h2
/-- 'append(.., r)'. -/
theorem append_re (w : World) (base g8 : Nat) (v : Value) (L : List Tr) (t : Tr) (ty : TypeId) (h6 : ResRow w base v L) (h8 : At w g8 27 t.cs.toArray) (hbw : base ≤ w.heap.size) (hn : L.length ≤ 100000) :
    ∃ v' w', (Builtin.append_ #[25, 25] ty #[v, .slice (some ⟨g8, 0, none⟩) 1 1]).run Tryz.prog w = .ok v' w' ∧ (ResRow w' base v' (L ++ [t]) ∧ w.grownBy w' v.ownBlock) := by
  obtain ⟨i, hi, hz, hsz, hby⟩ := info_parts info_reL
  obtain ⟨v', w', hr, h2, h3, _, _⟩ := run_append_own_at (P := Tryz.prog) w base 25 ty 27 i _ 9 88 Tryz.underlying25 hi hz hsz hby rfl (by omega) v L.length (csL L) h6 ⟨g8, 0, none⟩ 1 1 t.cs rfl (World.news_of_block h8) (by have := csL_one [t]; simpa [csL] using this) (by unfold maxLen; omega) (by omega) hbw
  refine ⟨v', w', hr, ?_, h3⟩
  unfold ResRow
  rw [List.length_append, ← csL_snoc]
  exact h2
section
variable {ops : Array Oper} {o : Oper} {a : Act} {w : World} {K : Act → World → Prop} {Q : Exit → Act → World → Prop} {X : Prop}
theorem stepq_slice0 (hgd : o.guard = none) (ho : o.op = .buildSlice 25 0 #[]) (hrun : ∀ w, (Instr.buildSlice 25 0 #[]).run Tryz.prog w = .ok (.slice (some ⟨w.heap.size, 0, none⟩) 0 0) (w.alloc (.cells #[] 27)))
    (h : ∀ g w', At w' g 27 #[] → Below w.heap.size w w' → w.heap.size ≤ g → K (a.put o.dst (.slice (some ⟨g, 0, none⟩) 0 0)) w') : if Region.wanted o (yielded ops a.tmps) = true then Oper.wp Tryz.prog o a w K Q else X := by
  refine stepq_value hgd (.slice (some ⟨w.heap.size, 0, none⟩) 0 0) (w.alloc (.cells #[] 27)) ?_ (h _ _ (At.new _ _ _) ((Below.refl _ _).alloc (Nat.le_refl _) _) (Nat.le_refl _))
  unfold execOp
  simp only [ho, List.map_toArray, List.map_nil, Sem.run_bind, hrun, Result.andThen_ok, Sem.run_pure]
end
theorem run_re0 (w : World) : (Instr.buildSlice 25 0 #[]).run Tryz.prog w = .ok (.slice (some ⟨w.heap.size, 0, none⟩) 0 0) (w.alloc (.cells #[] 27)) := by kernel_rfl
theorem run_re1 (t : Tr) (w : World) : (Instr.buildSlice 25 1 #[(0, .agg t.cs.toArray)]).run Tryz.prog w = .ok (.slice (some ⟨w.heap.size, 0, none⟩) 1 1) (w.alloc (.cells t.cs.toArray 27)) := by kernel_rfl
theorem results_rowR {P : Program} {fn : Func} {p : Tmp} {ty : TypeId} (h : fn.results = #[.cell p ty]) (tmps : Array Value) (w : World) (g : Nat) (t : TypeId) (cs : Array Value) (fr : Nat × Nat) (d : TypeDesc)
    (hp : tmps.getD p undef = .pointer (some ⟨g, 0, none⟩)) (hg : w.heap[g]? = some (.cells cs t fr))
    (hu : P.underlying ty = some d) (hd : (match d with | .struct _ | .array _ _ => true | _ => false) = true) (hi : (P.info? ty).map (·.size) = some cs.size) :
    (results fn tmps).run P w = .ok (.agg cs) w := by
  have hp' : tmps[p]?.getD undef = .pointer (some ⟨g, 0, none⟩) := by simpa using hp
  simp [results, h, hp', asAddr, run_loadVar_row w g t ty cs fr d hg hu hd hi]

set_option maxRecDepth 100000 in
set_option maxHeartbeats 4000000 in
theorem refBare (t : Tr) (w : World) : Calls Tryz.prog 21 #[.agg t.cs.toArray] w fun e w' => e = .returned (.agg (bareT t).cs.toArray) ∧ Below w.heap.size w w' := by
  have hone := Tr.one (bareT t)
  have HB : Hid (Below w.heap.size w ((w.alloc (.cells (bareT t).cs.toArray 27)).alloc (.cells Tr.blank.cs.toArray 27))) := Lib.hid (((Below.refl _ _).alloc (Nat.le_refl _) _).alloc (by simp) _)
  have HA : Hid (At ((w.alloc (.cells (bareT t).cs.toArray 27)).alloc (.cells Tr.blank.cs.toArray 27)) w.heap.size 27 (bareT t).cs.toArray) := Lib.hid ((At.new w _ _).alloc _)
  have HZ : Hid (At ((w.alloc (.cells (bareT t).cs.toArray 27)).alloc (.cells Tr.blank.cs.toArray 27)) (w.heap.size + 1) 27 Tr.blank.cs.toArray) := Lib.hid (by
    have q := At.new (w.alloc (.cells (bareT t).cs.toArray 27)) 27 Tr.blank.cs.toArray
    rw [World.size_alloc] at q
    exact q)
  rw [bareT_cs] at HB HA HZ
  have q8 : ((w.alloc (.cells t.cs.toArray 27)).alloc (.cells Tr.blank.cs.toArray 27)).cell? ⟨w.heap.size, 8, none⟩ = some (.bool t.neg) := ((At.new w 27 t.cs.toArray).alloc _).cell 8
  have f8 : ((w.alloc (.cells t.cs.toArray 27)).alloc (.cells Tr.blank.cs.toArray 27)).frozen? ⟨w.heap.size, 8, none⟩ = false := ((At.new w 27 t.cs.toArray).alloc _).free 8
  change ((w.alloc (.cells t.cs.toArray 27)).alloc (.cells #[.int .i64 0, .int .u64 0, .int .u64 0, .int .u64 0, .int .u64 0, .slice none 0 0, .int .i64 0, .int .i64 0, .bool false] 27)).cell? _ = _ at q8
  change ((w.alloc (.cells t.cs.toArray 27)).alloc (.cells #[.int .i64 0, .int .u64 0, .int .u64 0, .int .u64 0, .int .u64 0, .slice none 0 0, .int .i64 0, .int .i64 0, .bool false] 27)).frozen? _ = _ at f8
  rw [bareT_cs] at hone ⊢
  go_enter Tryz.func21, Tryz.ntmps21
  go_wp2_with (first
    | (with_reducible show wpList _ _ _ ({ dst := some 4, op := .load _ _, type := _, pos := _, after := _, guard := _ } :: _) _ _
       refine wpList_load_row rfl 27 _ rfl w.heap.size rfl 27 (t.cs.toArray.setIfInBounds 8 (.bool false)) (0, 0) _ HA.out Tryz.underlying27 rfl (by rw [Array.size_setIfInBounds]; kernel_rfl) ?_)
    | (with_reducible show wpList _ _ _ ({ dst := none, op := .store 27 _ _, type := _, pos := _, after := _, guard := _ } :: _) _ _
       refine wpList_store_row rfl 27 _ _ rfl (w.heap.size + 1) (t.cs.toArray.setIfInBounds 8 (.bool false)) rfl rfl 27 Tr.blank.cs.toArray HZ.out (by kernel_rfl) (by rw [Array.size_setIfInBounds]; rfl) hone ?_)
    | fail)
  exact bodyPost_ret (results_rowR Tryz.results21 _ _ (w.heap.size + 1) 27 (t.cs.toArray.setIfInBounds 8 (.bool false)) (0, 0) _ rfl (At.row HZ.out _) Tryz.underlying27 rfl (by rw [Array.size_setIfInBounds]; kernel_rfl)) rfl ⟨rfl, below_row HB.out (Nat.le_succ _) _⟩

theorem tr_at_range {w : World} {g : Nat} {ty : TypeId} {t : Tr} (h : At w g ty t.cs.toArray) : w.rangeAt g 0 t.cs := fun j v hv => by
  rw [Nat.zero_add, h.cell]; simpa using hv
theorem ResRow.step {w w0 w' : World} {base : Nat} {v : Value} {L : List Tr} (h : ResRow w base v L) (hb : Below w0.heap.size w0 w') (e : w0.heap = w.heap) : ResRow w' base v L := by
  have h0 : ResRow w0 base v L := by unfold ResRow World.ownsRow at h ⊢; rw [e]; exact h
  exact World.ownsRow.kept (row := none) h0 ⟨hb.os, hb.tape, hb.output, hb.size, fun i hi _ => hb.block i hi⟩ (by cases hv : v.ownBlock <;> simp)
theorem lookB_of {k : Nat} {t : Tr} (h : 8 ≤ t.kind) : lookB (k + 1) t = true := by show (decide (8 ≤ t.kind) || _) = true; rw [decide_eq_true h]; rfl
theorem lookB_small {k : Nat} {t : Tr} (h : t.kind < 8) : lookB (k + 1) t = t.parts.any (lookB k) := by show (decide (8 ≤ t.kind) || _) = _; rw [decide_eq_false (by omega), Bool.false_or]
theorem any_take {α : Type} {l : List α} {f : α → Bool} {j : Nat} (h : j < l.length) : (l.take (j + 1)).any f = ((l.take j).any f || f l[j]) := by
  rw [List.take_succ_eq_append_getElem h, List.any_append, List.any_cons, List.any_nil, Bool.or_false]
theorem sumN_take {α : Type} {l : List α} {f : α → Nat} {j : Nat} (h : j < l.length) : ((l.take (j + 1)).map f).sum = ((l.take j).map f).sum + f l[j] := by
  rw [List.take_succ_eq_append_getElem h, List.map_append, List.sum_append, List.map_singleton, List.sum_singleton]
theorem sumN_take_le {α : Type} {l : List α} {f : α → Nat} : ∀ (j : Nat), ((l.take j).map f).sum ≤ (l.map f).sum := by
  induction l with
  | nil => intro j; simp
  | cons a l ih => intro j; cases j with
    | zero => simp
    | succ j => have := ih j; rw [List.take_succ_cons, List.map_cons, List.map_cons, List.sum_cons, List.sum_cons]; omega

set_option maxRecDepth 100000 in
set_option maxHeartbeats 16000000 in
theorem refLooks (M : Nat) : ∀ (k : Nat) (t : Tr) (v : Value) (L : List Tr) (w : World), k ≤ M → Tr.In w k t → Pats w M v L → L.length + nodesN k t ≤ 100000 →
    Calls Tryz.prog 8 #[v, .agg t.cs.toArray] w fun e w' => ∃ v' L', e = .returned v' ∧ Pats w' M v' L' ∧ L'.length ≤ L.length + nodesN k t ∧ (0 < L'.length ↔ 0 < L.length ∨ lookB k t = true) ∧ Below w.heap.size w w'
  | 0, _, _, _, _, _, h, _, _ => h.elim
  | k + 1, t, v, L, w, hkK, h, hP, hbig => by
    have hlen : t.parts.length ≤ 9223372036854775807 := by have := h.2.1; omega
    have hn := h.2.1.1
    have HI := Lib.hid h
    have HC := Lib.hid (At.tr_cell (At.new w 27 t.cs.toArray))
    have HP0 := Lib.hid (hP.next ((Below.refl w.heap.size w).alloc (Nat.le_refl _) (.cells t.cs.toArray 27)))
    have HBig : Hid (L.length + (1 + (t.parts.map (nodesN k)).sum) ≤ 100000) := Lib.hid hbig
    clear h hP hbig
    have hcell := HC.out.2.1
    go_enter Tryz.func8, Tryz.ntmps8
    go_wp2_with fail
    go_loopw [0, 10] (fun u i wr => ∃ (j : Nat) (L2 : List Tr), j ≤ t.parts.length ∧ i = .int .i64 j ∧ Hid (Pats wr M u L2) ∧ Hid (L2.length ≤ L.length + ((t.parts.take j).map (nodesN k)).sum) ∧ Hid (0 < L2.length ↔ 0 < L.length ∨ (t.parts.take j).any (lookB k) = true) ∧ Hid (At wr w.heap.size 27 t.cs.toArray) ∧ Hid (Below w.heap.size w wr)) (fun _ i _ => t.parts.length - (intOf i).toNat)
    case atStart => exact ⟨0, L, Nat.zero_le _, rfl, HP0, Lib.hid (by simp), Lib.hid (by simp), Lib.hid (At.new _ _ _), Lib.hid ((Below.refl _ _).alloc (Nat.le_refl _) _)⟩
    case round =>
      obtain ⟨j, L2, hj, rfl, HPs, HLn0, HLk0, HA, HB⟩ := hrel
      clear hcell HP0
      by_cases hlt : j < t.parts.length
      · have hcell := (At.tr_cell HA.out).2.1
        obtain ⟨b, off, ha, hb, hr⟩ := HI.out.2.2.1 (by rw [hn]; omega)
        have HR := Lib.hid (range_below (hr j hlt) hb (Nat.le_refl _) HB.out)
        have HP := Lib.hid (Tr.In.next (HI.out.2.2.2 j hlt) HB.out)
        have HSt := Lib.hid (sumN_take (f := nodesN k) hlt)
        have HAt := Lib.hid (any_take (f := lookB k) hlt)
        have HSl := Lib.hid (sumN_take_le (l := t.parts) (f := nodesN k) (j + 1))
        clear hr hb
        rw [ha] at hcell
        clear ha
        have hjz : (0 : Int) ≤ (j : Int) := by omega
        have hjn : (j : Int) < (t.parts.length : Int) := by omega
        have hbd : L2.length + nodesN k t.parts[j] ≤ 100000 := by
          have h1 := HLn0.out
          have h2 := HBig.out
          have h3 := HSl.out
          rw [HSt.out] at h3
          omega
        go_wp2_with (refine wpList_load_mid rfl 27 _ rfl b (off + j * 9) rfl t.parts[j].cs _ HR.out Tryz.underlying27 rfl (by rw [Tr.cs_length]; kernel_rfl) ?_)
        refine (refLooks M k t.parts[j] _ L2 _ (by omega) HP.out HPs.out hbd).mono ?_
        rintro e w3 ⟨v3, L3, rfl, hp3, hl3, hk3, hb3⟩
        have HP3 := Lib.hid hp3
        have HA3 := Lib.hid (HA.out.step hb3 rfl)
        have HB3 := Lib.hid (below_step HB.out hb3 rfl rfl rfl rfl)
        have HL3 : Hid (L3.length ≤ L.length + ((t.parts.take (j + 1)).map (nodesN k)).sum) := Lib.hid (by rw [HSt.out]; have := HLn0.out; omega)
        have HK3 : Hid (0 < L3.length ↔ 0 < L.length ∨ (t.parts.take (j + 1)).any (lookB k) = true) := Lib.hid (by
          rw [HAt.out, hk3, HLk0.out, Bool.or_eq_true, or_assoc])
        clear hp3 hl3 hk3 hb3 hcell hbd
        go_wp2_with fail
        exact ⟨⟨j + 1, L3, by omega, by go_num, HP3, HL3, HK3, HA3, HB3⟩, by simp [intOf] <;> omega⟩
      · obtain rfl : j = t.parts.length := by omega
        have HLn : Hid (L2.length ≤ L.length + nodesN (k + 1) t) := Lib.hid (by have := HLn0.out; rw [List.take_length] at this; show _ ≤ L.length + (1 + (t.parts.map (nodesN k)).sum); omega)
        have HLm : Hid (L2.length + 1 ≤ L.length + nodesN (k + 1) t) := Lib.hid (by have := HLn0.out; rw [List.take_length] at this; show _ ≤ L.length + (1 + (t.parts.map (nodesN k)).sum); omega)
        have HLk1 : Hid (0 < L2.length ↔ 0 < L.length ∨ t.parts.any (lookB k) = true) := Lib.hid (by have := HLk0.out; rw [List.take_length] at this; exact this)
        have HBg : Hid (L2.length + 1 ≤ 100000) := Lib.hid (by have := HLm.out; have h2 := HBig.out; have : nodesN (k + 1) t = 1 + (t.parts.map (nodesN k)).sum := rfl; omega)
        have hk0 := (At.tr_cell HA.out).1
        clear HLn0 HLk0 hj hlt
        by_cases hk : t.kind < 8
        · have hk1 : decide (t.kind < 8) = true := decide_eq_true hk
          have HLs := Lib.hid (lookB_small (k := k) hk)
          go_wp2_with fail
          go_ret
          exact ⟨_, L2, rfl, HPs.out, HLn.out, by rw [HLs.out]; exact HLk1.out, HB.out⟩
        · have hk1 : decide (t.kind < 8) = false := decide_eq_false hk
          have HLk : Hid (lookB (k + 1) t = true) := Lib.hid (lookB_of (by omega))
          have HT0 : Hid (Tr.In wr M t) := Lib.hid ((HI.out.le (M - (k + 1))).next HB.out |> fun q => by rw [show k + 1 + (M - (k + 1)) = M by omega] at q; exact q)
          obtain ⟨A2, c2, hv2, _, _⟩ := id HPs.out
          subst hv2
          have hL63 : L2.length ≤ 9223372036854775807 := by have := HBg.out; omega
          obtain ⟨wb, hwb⟩ : ∃ wb, wb = wr := ⟨_, rfl⟩
          rw [← hwb] at HA HB HPs HT0 hk0 ⊢
          clear hwb
          go_wp2_with fail
          clear hk0
          go_loopw [27] (fun x wr => ∃ i : Nat, i ≤ L2.length ∧ x = .int .i64 i ∧ Hid (At wr w.heap.size 27 t.cs.toArray) ∧ Hid (Pats wr M (.slice A2 L2.length c2) L2) ∧ Hid (Tr.In wr M t) ∧ Hid (Below w.heap.size w wr)) (fun x _ => L2.length - (intOf x).toNat)
          case atStart => exact ⟨0, Nat.zero_le _, rfl, HA, HPs, HT0, HB⟩
          case round =>
            clear HA HPs HT0 HB
            obtain ⟨i, hi, rfl, HA, HPs, HT, HB⟩ := hrel
            by_cases hil : i < L2.length
            · have hiz : (0 : Int) ≤ (i : Int) := by omega
              have hin : (i : Int) < (L2.length : Int) := by omega
              obtain ⟨A3, c3, e3, hrow, hall⟩ := HPs.out
              injection e3 with e3 _ e5
              subst e3 e5
              obtain ⟨b, off, rfl, hlt, hr⟩ := hrow (by omega)
              have HR := Lib.hid (hr i hil)
              have HR2 := Lib.hid hlt
              have HQ := Lib.hid (hall L2[i] (List.getElem_mem hil))
              obtain ⟨q, hq⟩ : ∃ q, L2[i] = q := ⟨_, rfl⟩
              rw [hq] at HR HQ
              obtain ⟨sm, hsm⟩ : ∃ sm, sameS M 41 q (bareT t) = sm := ⟨_, rfl⟩
              have HSm := Lib.hid hsm
              clear hrow hall hr hq hsm hlt
              go_wp2_with fail
              cases sm
              · have hBo : Below wr.heap.size wr wr := Below.refl _ _
                refine wp_region_noPanic ?_
                refine wp_region_held_drew (S := (fun w' => w'.rangeAt w.heap.size 0 t.cs ∧ w'.rangeAt b (off + i * 9) q.cs)) (by kernel_rfl) (by first | exact ⟨tr_at_range (HA.out.below hBo HA.out.lt), range_below HR.out HR2.out (Nat.le_refl _) hBo⟩ | exact ⟨tr_at_range (HA.out.below hBo.drew HA.out.lt), range_below HR.out HR2.out (Nat.le_refl _) hBo.drew⟩) (fun hHeld => ?_)
                have hBo := hBo.drew
                refine wpAnyH_take (i := 0) (oi := ⟨some 30, _, _, _, _, _⟩) (v := ?_) rfl (by kernel_rfl) (by kernel_rfl) (by kernel_rfl) (fun _ _ _ h => h) (Or.inl ⟨by rfl, ?_⟩) (by exact hHeld) ?_
                rotate_left
                · (intro w hSw; (try dsimp only at hSw); go_simp; try (with_reducible rfl))
                simp only [Act.put, List.setIfInBounds_toArray, List.set_cons_zero, List.set_cons_succ]
                refine wpAnyH_take (i := 1) (oi := ⟨some 31, _, _, _, _, _⟩) (v := ?_) rfl (by kernel_rfl) (by kernel_rfl) (by kernel_rfl) (fun _ _ _ h => h) (Or.inl ⟨by rfl, ?_⟩) (by exact hHeld) ?_
                rotate_left
                · (intro w hSw; (try dsimp only at hSw); go_simp; try (with_reducible rfl))
                simp only [Act.put, List.setIfInBounds_toArray, List.set_cons_zero, List.set_cons_succ]
                refine wpAnyH_take (i := 2) (oi := ⟨some 32, _, _, _, _, _⟩) (v := ?_) rfl (by kernel_rfl) (by kernel_rfl) (by kernel_rfl) (fun _ _ _ h => h) (Or.inl ⟨by rfl, ?_⟩) (by exact hHeld) ?_
                rotate_left
                · (intro w hSw; (try dsimp only at hSw); go_simp; try (with_reducible rfl))
                simp only [Act.put, List.setIfInBounds_toArray, List.set_cons_zero, List.set_cons_succ]
                refine wpAnyH_take (i := 3) (oi := ⟨some 33, _, _, _, _, _⟩) (v := _) rfl (by kernel_rfl) (by kernel_rfl) (by kernel_rfl) (fun _ _ _ h => h) (yieldsIf_load_mid (by rfl) 27 _ rfl b (off + i * 9) rfl q.cs _ (fun _ h => h.2) Tryz.underlying27 rfl (by rw [Tr.cs_length]; kernel_rfl)) (by exact hHeld) ?_
                simp only [Act.put, List.setIfInBounds_toArray, List.set_cons_zero, List.set_cons_succ]
                refine wpAnyH_take (i := 4) (oi := ⟨some 34, _, _, _, _, _⟩) (v := _) rfl (by kernel_rfl) (by kernel_rfl) (by kernel_rfl) (fun _ _ _ h => h) (yieldsIf_load_mid (by rfl) 27 _ rfl w.heap.size 0 rfl t.cs _ (fun _ h => h.1) Tryz.underlying27 rfl (by rw [Tr.cs_length]; kernel_rfl)) (by exact hHeld) ?_
                simp only [Act.put, List.setIfInBounds_toArray, List.set_cons_zero, List.set_cons_succ]
                refine wpAnyH_ready (rs := [5]) (by kernel_rfl) (by simp) ?_
                refine AllReadyH.cons (o := ⟨some 35, _, _, _, _, _⟩) rfl (fun K hK => ?_) AllReadyH.nil
                go_simp
                ((with_reducible refine (refBare t _).mono ?_))
                rintro e w5 ⟨rfl, hb5⟩
                have hBo := below_step hBo hb5 rfl rfl rfl rfl
                clear hb5
                dsimp only
                refine hK.out _ _ ?_ (fun hHeld => ?_)
                · first | exact ⟨tr_at_range (HA.out.below hBo HA.out.lt), range_below HR.out HR2.out (Nat.le_refl _) hBo⟩ | exact ⟨tr_at_range (HA.out.below hBo.drew HA.out.lt), range_below HR.out HR2.out (Nat.le_refl _) hBo.drew⟩
                clear hK K
                try simp only [Act.put, List.setIfInBounds_toArray, List.set_cons_zero, List.set_cons_succ]
                refine wpAnyH_ready (rs := [6]) (by kernel_rfl) (by simp) ?_
                refine AllReadyH.cons (o := ⟨some 36, _, _, _, _, _⟩) rfl (fun K hK => ?_) AllReadyH.nil
                go_simp
                ((with_reducible refine (refSame M 41 q (bareT t) _ (by omega) (by omega) (HQ.out.next hBo) (bareT_in M t (HT.out.next hBo))).mono ?_))
                rintro e w6 ⟨rfl, hb6⟩
                have hBo := below_step hBo hb6 rfl rfl rfl rfl
                rw [HSm.out]
                clear hb6
                dsimp only
                refine hK.out _ _ ?_ (fun hHeld => ?_)
                · first | exact ⟨tr_at_range (HA.out.below hBo HA.out.lt), range_below HR.out HR2.out (Nat.le_refl _) hBo⟩ | exact ⟨tr_at_range (HA.out.below hBo.drew HA.out.lt), range_below HR.out HR2.out (Nat.le_refl _) hBo.drew⟩
                clear hK K
                try simp only [Act.put, List.setIfInBounds_toArray, List.set_cons_zero, List.set_cons_succ]
                refine wpAnyH_done (by kernel_rfl) ?_ _
                refine NoPanic.normal ?_
                go_wp2_with fail
                refine ⟨⟨i + 1, by omega, by go_num, Lib.hid (HA.out.below hBo HA.out.lt), Lib.hid (HPs.out.next hBo), Lib.hid (HT.out.next hBo), Lib.hid (HB.out.trans (hBo.mono HB.out.size))⟩, by simp [intOf] <;> omega⟩
              · have hBo : Below wr.heap.size wr wr := Below.refl _ _
                refine wp_region_noPanic ?_
                refine wp_region_held_drew (S := (fun w' => w'.rangeAt w.heap.size 0 t.cs ∧ w'.rangeAt b (off + i * 9) q.cs)) (by kernel_rfl) (by first | exact ⟨tr_at_range (HA.out.below hBo HA.out.lt), range_below HR.out HR2.out (Nat.le_refl _) hBo⟩ | exact ⟨tr_at_range (HA.out.below hBo.drew HA.out.lt), range_below HR.out HR2.out (Nat.le_refl _) hBo.drew⟩) (fun hHeld => ?_)
                have hBo := hBo.drew
                refine wpAnyH_take (i := 0) (oi := ⟨some 30, _, _, _, _, _⟩) (v := ?_) rfl (by kernel_rfl) (by kernel_rfl) (by kernel_rfl) (fun _ _ _ h => h) (Or.inl ⟨by rfl, ?_⟩) (by exact hHeld) ?_
                rotate_left
                · (intro w hSw; (try dsimp only at hSw); go_simp; try (with_reducible rfl))
                simp only [Act.put, List.setIfInBounds_toArray, List.set_cons_zero, List.set_cons_succ]
                refine wpAnyH_take (i := 1) (oi := ⟨some 31, _, _, _, _, _⟩) (v := ?_) rfl (by kernel_rfl) (by kernel_rfl) (by kernel_rfl) (fun _ _ _ h => h) (Or.inl ⟨by rfl, ?_⟩) (by exact hHeld) ?_
                rotate_left
                · (intro w hSw; (try dsimp only at hSw); go_simp; try (with_reducible rfl))
                simp only [Act.put, List.setIfInBounds_toArray, List.set_cons_zero, List.set_cons_succ]
                refine wpAnyH_take (i := 2) (oi := ⟨some 32, _, _, _, _, _⟩) (v := ?_) rfl (by kernel_rfl) (by kernel_rfl) (by kernel_rfl) (fun _ _ _ h => h) (Or.inl ⟨by rfl, ?_⟩) (by exact hHeld) ?_
                rotate_left
                · (intro w hSw; (try dsimp only at hSw); go_simp; try (with_reducible rfl))
                simp only [Act.put, List.setIfInBounds_toArray, List.set_cons_zero, List.set_cons_succ]
                refine wpAnyH_take (i := 3) (oi := ⟨some 33, _, _, _, _, _⟩) (v := _) rfl (by kernel_rfl) (by kernel_rfl) (by kernel_rfl) (fun _ _ _ h => h) (yieldsIf_load_mid (by rfl) 27 _ rfl b (off + i * 9) rfl q.cs _ (fun _ h => h.2) Tryz.underlying27 rfl (by rw [Tr.cs_length]; kernel_rfl)) (by exact hHeld) ?_
                simp only [Act.put, List.setIfInBounds_toArray, List.set_cons_zero, List.set_cons_succ]
                refine wpAnyH_take (i := 4) (oi := ⟨some 34, _, _, _, _, _⟩) (v := _) rfl (by kernel_rfl) (by kernel_rfl) (by kernel_rfl) (fun _ _ _ h => h) (yieldsIf_load_mid (by rfl) 27 _ rfl w.heap.size 0 rfl t.cs _ (fun _ h => h.1) Tryz.underlying27 rfl (by rw [Tr.cs_length]; kernel_rfl)) (by exact hHeld) ?_
                simp only [Act.put, List.setIfInBounds_toArray, List.set_cons_zero, List.set_cons_succ]
                refine wpAnyH_ready (rs := [5]) (by kernel_rfl) (by simp) ?_
                refine AllReadyH.cons (o := ⟨some 35, _, _, _, _, _⟩) rfl (fun K hK => ?_) AllReadyH.nil
                go_simp
                ((with_reducible refine (refBare t _).mono ?_))
                rintro e w5 ⟨rfl, hb5⟩
                have hBo := below_step hBo hb5 rfl rfl rfl rfl
                clear hb5
                dsimp only
                refine hK.out _ _ ?_ (fun hHeld => ?_)
                · first | exact ⟨tr_at_range (HA.out.below hBo HA.out.lt), range_below HR.out HR2.out (Nat.le_refl _) hBo⟩ | exact ⟨tr_at_range (HA.out.below hBo.drew HA.out.lt), range_below HR.out HR2.out (Nat.le_refl _) hBo.drew⟩
                clear hK K
                try simp only [Act.put, List.setIfInBounds_toArray, List.set_cons_zero, List.set_cons_succ]
                refine wpAnyH_ready (rs := [6]) (by kernel_rfl) (by simp) ?_
                refine AllReadyH.cons (o := ⟨some 36, _, _, _, _, _⟩) rfl (fun K hK => ?_) AllReadyH.nil
                go_simp
                ((with_reducible refine (refSame M 41 q (bareT t) _ (by omega) (by omega) (HQ.out.next hBo) (bareT_in M t (HT.out.next hBo))).mono ?_))
                rintro e w6 ⟨rfl, hb6⟩
                have hBo := below_step hBo hb6 rfl rfl rfl rfl
                rw [HSm.out]
                clear hb6
                dsimp only
                refine hK.out _ _ ?_ (fun hHeld => ?_)
                · first | exact ⟨tr_at_range (HA.out.below hBo HA.out.lt), range_below HR.out HR2.out (Nat.le_refl _) hBo⟩ | exact ⟨tr_at_range (HA.out.below hBo.drew HA.out.lt), range_below HR.out HR2.out (Nat.le_refl _) hBo.drew⟩
                clear hK K
                try simp only [Act.put, List.setIfInBounds_toArray, List.set_cons_zero, List.set_cons_succ]
                refine wpAnyH_done (by kernel_rfl) ?_ _
                refine NoPanic.normal ?_
                go_wp2_with fail
                go_ret
                exact ⟨_, L2, rfl, HPs.out.next hBo, HLn.out, ⟨fun _ => Or.inr HLk.out, fun _ => by omega⟩, HB.out.trans (hBo.mono HB.out.size)⟩
            · obtain rfl : i = L2.length := by omega
              obtain ⟨wo, hwo⟩ : ∃ wo, wo = wr := ⟨_, rfl⟩
              rw [← hwo] at HA HPs HT HB ⊢
              clear hwo
              go_wp2_with fail
              have hBo : Below wo.heap.size wo wo := Below.refl _ _
              refine wp_region_noPanic ?_
              refine wp_region_held_drew (S := (fun w' => w'.rangeAt w.heap.size 0 t.cs)) (by kernel_rfl) (by first | exact tr_at_range (HA.out.below hBo HA.out.lt) | exact tr_at_range (HA.out.below hBo.drew HA.out.lt)) (fun hHeld => ?_)
              have hBo := hBo.drew
              refine wpAnyH_take (i := 1) (oi := ⟨some 40, _, _, _, _, _⟩) (v := ?_) rfl (by kernel_rfl) (by kernel_rfl) (by kernel_rfl) (fun _ _ _ h => h) (Or.inl ⟨by rfl, ?_⟩) (by exact hHeld) ?_
              rotate_left
              · (intro w hSw; (try dsimp only at hSw); go_simp; try (with_reducible rfl))
              simp only [Act.put, List.setIfInBounds_toArray, List.set_cons_zero, List.set_cons_succ]
              refine wpAnyH_take (i := 3) (oi := ⟨some 42, _, _, _, _, _⟩) (v := _) rfl (by kernel_rfl) (by kernel_rfl) (by kernel_rfl) (fun _ _ _ h => h) (yieldsIf_load_mid (by rfl) 27 _ rfl w.heap.size 0 rfl t.cs _ (fun _ h => h) Tryz.underlying27 rfl (by rw [Tr.cs_length]; kernel_rfl)) (by exact hHeld) ?_
              simp only [Act.put, List.setIfInBounds_toArray, List.set_cons_zero, List.set_cons_succ]
              refine wpAnyH_ready (rs := [0]) (by kernel_rfl) (by simp) ?_
              refine AllReadyH.cons (o := ⟨some 39, _, _, _, _, _⟩) rfl (fun K hK => ?_) AllReadyH.nil
              refine stepq_slice0 rfl rfl run_re0 (fun g0 w4 h4 hb4 hg0 => ?_)
              have hg0 : wo.heap.size ≤ g0 := Nat.le_trans hBo.size hg0
              have hBo := below_step hBo hb4 rfl rfl rfl rfl
              clear hb4
              try dsimp only
              refine hK.out _ _ ?_ (fun hHeld => ?_)
              · first | exact tr_at_range (HA.out.below hBo HA.out.lt) | exact tr_at_range (HA.out.below hBo.drew HA.out.lt)
              clear hK K
              try simp only [Act.put, List.setIfInBounds_toArray, List.set_cons_zero, List.set_cons_succ]
              refine wpAnyH_ready (rs := [2]) (by kernel_rfl) (by simp) ?_
              refine AllReadyH.cons (o := ⟨some 41, _, _, _, _, _⟩) rfl (fun K hK => ?_) AllReadyH.nil
              refine stepq_append rfl _ _ 25 rfl _ _ rfl rfl (append_pats _ wo.heap.size g0 M A2 L2.length c2 L2 _ h4 hg0 hBo.size (HPs.out.next hBo) (by have := HBg.out; omega)) ?_
              rintro v5 w5 ⟨hrow, hgr⟩
              have hBo := hBo.grown hgr hBo.size (fun b e => by injection e with e; omega)
              clear hgr h4
              refine hK.out _ _ ?_ (fun hHeld => ?_)
              · first | exact tr_at_range (HA.out.below hBo HA.out.lt) | exact tr_at_range (HA.out.below hBo.drew HA.out.lt)
              clear hK K
              try simp only [Act.put, List.setIfInBounds_toArray, List.set_cons_zero, List.set_cons_succ]
              refine wpAnyH_ready (rs := [4]) (by kernel_rfl) (by simp) ?_
              refine AllReadyH.cons (o := ⟨some 43, _, _, _, _, _⟩) rfl (fun K hK => ?_) AllReadyH.nil
              go_simp
              ((with_reducible refine (refBare t _).mono ?_))
              rintro e w6 ⟨rfl, hb6⟩
              have hrow := ResRow.step hrow hb6 rfl
              have hBo := below_step hBo hb6 rfl rfl rfl rfl
              clear hb6
              dsimp only
              refine hK.out _ _ ?_ (fun hHeld => ?_)
              · first | exact tr_at_range (HA.out.below hBo HA.out.lt) | exact tr_at_range (HA.out.below hBo.drew HA.out.lt)
              clear hK K
              try simp only [Act.put, List.setIfInBounds_toArray, List.set_cons_zero, List.set_cons_succ]
              refine wpAnyH_ready (rs := [5]) (by kernel_rfl) (by simp) ?_
              refine AllReadyH.cons (o := ⟨some 44, _, _, _, _, _⟩) rfl (fun K hK => ?_) AllReadyH.nil
              refine stepq_slice1 25 27 (bareT t).cs.toArray rfl _ (.agg (bareT t).cs.toArray) rfl rfl (run_re1 (bareT t)) (fun g8 w7 h8 hb7 hg8 => ?_)
              have hrow := ResRow.step hrow hb7 rfl
              have hBo := below_step hBo hb7 rfl rfl rfl rfl
              clear hb7
              try dsimp only
              refine hK.out _ _ ?_ (fun hHeld => ?_)
              · first | exact tr_at_range (HA.out.below hBo HA.out.lt) | exact tr_at_range (HA.out.below hBo.drew HA.out.lt)
              clear hK K
              try simp only [Act.put, List.setIfInBounds_toArray, List.set_cons_zero, List.set_cons_succ]
              refine wpAnyH_ready (rs := [6]) (by kernel_rfl) (by simp) ?_
              refine AllReadyH.cons (o := ⟨some 45, _, _, _, _, _⟩) rfl (fun K hK => ?_) AllReadyH.nil
              refine stepq_append rfl _ _ 25 rfl _ _ rfl rfl (append_re _ wo.heap.size g8 v5 L2 (bareT t) _ hrow h8 hBo.size (by have := HBg.out; omega)) ?_
              rintro v6 w8 ⟨hrow6, hgr⟩
              have hBo := hBo.grown hgr hBo.size (fun b e => (World.ownsRow.lt hrow b e).1)
              have hrow := hrow6
              clear hgr h8 hrow6
              refine hK.out _ _ ?_ (fun hHeld => ?_)
              · first | exact tr_at_range (HA.out.below hBo HA.out.lt) | exact tr_at_range (HA.out.below hBo.drew HA.out.lt)
              clear hK K
              try simp only [Act.put, List.setIfInBounds_toArray, List.set_cons_zero, List.set_cons_succ]
              refine wpAnyH_take (i := 7) (oi := ⟨some 4, _, _, _, _, _⟩) (v := ?_) rfl (by kernel_rfl) (by kernel_rfl) (by kernel_rfl) (fun _ _ _ h => h) (Or.inl ⟨by rfl, ?_⟩) (by exact hHeld) ?_
              rotate_left
              · (intro w hSw; (try dsimp only at hSw); go_simp; try (with_reducible rfl))
              simp only [Act.put, List.setIfInBounds_toArray, List.set_cons_zero, List.set_cons_succ]
              refine wpAnyH_done (by kernel_rfl) ?_ _
              refine NoPanic.normal ?_
              go_wp2_with fail
              go_ret
              refine ⟨_, L2 ++ [bareT t], rfl, hrow.pats (fun u hu => ?_), ?_, ⟨fun _ => Or.inr HLk.out, fun _ => by rw [List.length_append]; simp⟩, HB.out.trans (hBo.mono HB.out.size)⟩
              · rw [List.mem_append, List.mem_singleton] at hu
                rcases hu with hu | rfl
                · obtain ⟨_, _, _, _, hin⟩ := HPs.out
                  exact (hin u hu).next hBo
                · exact bareT_in M t (HT.out.next hBo)
              · rw [List.length_append, List.length_singleton]; exact HLm.out

end Go.Proofs.YtcghclikkeajfaaGreat
