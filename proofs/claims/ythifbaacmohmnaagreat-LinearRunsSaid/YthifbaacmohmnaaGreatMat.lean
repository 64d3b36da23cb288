/- Joined: FgFormed, ArenaAid, ArenaIs. -/
import Derived.Test.YthifbaacmohmnaaGreatMas
import Derived.Test.YthifbaacmohmnaaGreatMak
import Derived.Test.YthifbaacmohmnaaGreatMal
import Derived.Test.YthifbaacmohmnaaGreatMam
import Derived.Deep.RegionHeld3
import Derived.StillTailTactics
import Derived.Maps.AppendAt
/- package formula: Formed, of formulas of up to 100000 parts. -/
namespace Go.Proofs.YthifbaacmohmnaaGreat
open Go.RowKit
set_option linter.unusedVariables false
set_option linter.unusedSimpArgs false

/-- A formed formula of few parts over numbers of L. -/
structure FmIn (L : List Int) (f : Fm) : Prop where
  fmd : Fmd f
  inn : ∀ p ∈ f, ∀ n ∈ p, n ∈ L
  few : f.length ≤ 200
theorem FmIn.part {L : List Int} {f : Fm} (h : FmIn L f) (hL : Up L) {p : List Int} (hp : p ∈ f) : p.length ≤ L.length := up_le hL (h.fmd.up p hp).1 (h.inn p hp)
theorem FmIn.mono {L M : List Int} {f : Fm} (h : FmIn L f) (hm : ∀ n ∈ L, n ∈ M) : FmIn M f := ⟨h.fmd, fun p hp n hn => hm n (h.inn p hp n hn), h.few⟩
theorem FmIn.nil (L : List Int) : FmIn L [] := ⟨least_nil.1, (fun p hp => by cases hp), Nat.zero_le _⟩
theorem FmIn.fm {L : List Int} {f : Fm} (h : FmIn L f) : fmS f = true := fm_mk h.fmd
/-- What Or, And, Dual answer: a formula of their own that holds as H says, or that there were too many parts. -/
def FmAns (w : World) (L : List Int) (H : List Int → Bool) (e : Ending) (w' : World) : Prop :=
  ∃ (A : Option Addr) (c : Nat) (x : Fm) (er : Int), e = .returned (.tuple #[.slice A x.length c, .int .i64 er]) ∧ FmFrom w.heap.size w' (.slice A x.length c) x ∧ FmIn L x ∧ ((er = 0 ∧ ∀ on, holdsS x on = H on) ∨ (er = 4 ∧ x = [])) ∧ Below w.heap.size w w'

set_option maxRecDepth 100000 in
set_option maxHeartbeats 8000000 in
theorem gFormed {w : World} {A : Option Addr} {n c : Nat} {f : Fm} (h : FmAt w (.slice A n c) f) (hl0 : f.length ≤ 100000) (hl : ∀ p ∈ f, p.length ≤ 100000) :
    Calls Tryz.prog 64 #[.slice A n c] w fun e w' => e = .returned (.bool (fmS f)) ∧ Below w.heap.size w w' := by
  have HI := Lib.hid h
  have hm := h.max
  obtain rfl := h.len
  have HL := Lib.hid hl
  clear h hl
  go_enter Tryz.func64, Tryz.ntmps64
  go_wp2_with fail
  go_loopw [7] (fun v wr => ∃ (i : Nat), i ≤ f.length ∧ v = .int .i64 i ∧ w = wr ∧ Hid (okTo f i)) (fun v _ => f.length - (intOf v).toNat)
  case atStart => exact ⟨0, Nat.zero_le _, rfl, rfl, Lib.hid (fun j hj => absurd hj (Nat.not_lt_zero _))⟩
  case round =>
    obtain ⟨i, hi, rfl, rfl, HN⟩ := hrel
    by_cases hlt : i < f.length
    · have h1 : (0 : Int) ≤ (i : Int) := by omega
      have h2 : (i : Int) < (f.length : Int) := by omega
      obtain ⟨b, off, A2, c2, rfl, hbl, q0, hp⟩ := HI.out.at i hlt
      have HP := Lib.hid hp
      clear hp
      obtain ⟨u, hu⟩ : ∃ u, upS (-1) (paAt f i) = u := ⟨_, rfl⟩
      have HU := Lib.hid hu
      have hR := fRises (paAt f i) A2 _ c2 w HP.out
      rw [hu] at hR
      have HR := Lib.hid hR
      clear hR hu
      cases u
      · go_wp2_with fail
        refine HR.out.mono ?_
        rintro e w3 ⟨rfl, rfl⟩
        go_wp2_with fail
        go_ret
        refine ⟨?_, Below.refl _ _⟩
        rw [not_fm hlt (fun h => by rw [HU.out] at h; exact absurd h.1 (by simp))]; rfl
      · by_cases h0 : i = 0
        · subst h0
          have q00 : w.cell? ⟨b, off, none⟩ = some (.slice A2 (paAt f 0).length c2) := q0
          clear q0
          go_wp2_with fail
          refine HR.out.mono ?_
          rintro e w3 ⟨rfl, rfl⟩
          go_wp2_with fail
          refine ⟨⟨1, by omega, by go_num, by first | rfl | trivial, Lib.hid (fun j hj => ?_)⟩, by simp [intOf]; omega⟩
          obtain rfl : j = 0 := by omega
          exact ⟨HU.out, .inl rfl⟩
        · obtain ⟨k, rfl⟩ : ∃ k, i = k + 1 := ⟨i - 1, by omega⟩
          obtain ⟨b', off', A3, c3, hA3, _, q3, hp3⟩ := HI.out.at k (by omega)
          injection hA3 with hA3
          injection hA3 with e1 e2
          subst e1 e2
          have hwp : IntKind.i64.wrap (k : Int) = (k : Int) := by rw [IntKind.wrap_i64]; omega
          have z1 : (0 : Int) < (k : Int) + 1 := by omega
          have z2 : (k : Int) + 1 > 0 := by omega
          have z3 : (k : Int) < (f.length : Int) := by omega
          obtain ⟨r, hr⟩ : ∃ r, ordS (paAt f k) (paAt f (k + 1)) = r := ⟨_, rfl⟩
          have hO := fOrd (paAt f k) (paAt f (k + 1)) A3 A2 _ c3 _ c2 w hp3 HP.out
          rw [hr] at hO
          have HO := Lib.hid hO
          have HRr := Lib.hid hr
          clear hO hr hp3
          by_cases hrr : r ≥ 0
          · have hr0 : (0 : Int) ≤ r := hrr
            go_wp2_with fail
            refine HR.out.mono ?_
            rintro e w3 ⟨rfl, rfl⟩
            go_wp2_with fail
            refine HO.out.mono ?_
            rintro e w3 ⟨rfl, rfl⟩
            go_wp2_with fail
            go_ret
            refine ⟨?_, Below.refl _ _⟩
            rw [not_fm hlt (fun h => by
              rcases h.2 with h | h
              · omega
              · rw [Nat.add_sub_cancel, ← ord_lt, HRr.out] at h; omega)]; rfl
          · have hr0 : ¬ (0 : Int) ≤ r := hrr
            go_wp2_with fail
            refine HR.out.mono ?_
            rintro e w3 ⟨rfl, rfl⟩
            go_wp2_with fail
            refine HO.out.mono ?_
            rintro e w3 ⟨rfl, rfl⟩
            go_wp2_with fail
            refine ⟨⟨k + 1 + 1, by omega, by go_num, by first | rfl | trivial, Lib.hid (fun j hj => ?_)⟩, by simp [intOf]; omega⟩
            by_cases e : j = k + 1
            · subst e
              exact ⟨HU.out, .inr (by rw [Nat.add_sub_cancel, ← ord_lt, HRr.out]; omega)⟩
            · exact HN.out j (by omega)
    · obtain rfl : i = f.length := by omega
      obtain ⟨hs, hu⟩ := ok_all HN.out
      have HS := Lib.hid hs
      have HU := Lib.hid hu
      clear hs hu
      go_wp2_with fail
      refine (fPartsOf f A _ c w HI.out (by omega) HU.out).mono ?_
      rintro e w1 ⟨v1, ps, rfl, p1, p2, p3, p4⟩
      have hpl : ps.length = f.length := by rw [← p3, List.length_map]
      have hLe := fLeast ps f.length v1 w.heap.size w1 p1 (fun x hx => (p2 x hx).forget (fun b _ e => (World.ownsRow.lt p1 b e).1)) (by omega) (fun x hx => by
        have := HL.out x.l (by rw [← p3]; exact List.mem_map.2 ⟨x, hx, rfl⟩)
        omega) hm (least_most p3 HS.out)
      have HLe := Lib.hid hLe
      have HP3 := Lib.hid p3
      have HP4 := Lib.hid p4
      clear hLe p1 p2 p3 p4 hpl
      go_wp2_with fail
      refine HLe.out.mono ?_
      rintro e w2 ⟨v2, r, rfl, l1, ⟨l2, _⟩, l4, l5⟩
      have HB : Hid (Below w.heap.size w w2) := Lib.hid (below_gr HP4.out HP4.out.size l5 (fun k e => by rw [← l2] at e; exact (World.ownsRow.lt l1 k e).1))
      have hfm := Lib.hid (least_fm HP3.out HS.out l4)
      obtain ⟨A2, c2, rfl⟩ := own_slice l1
      clear l1 l2 l4 l5
      by_cases hrl : r.length = f.length
      · have e1 : ((r.length : Int) == (f.length : Int)) = true := by simp [hrl]
        have HE : Hid (fmS f = true) := Lib.hid (by rw [hfm.out, decide_eq_true hrl])
        clear hrl
        go_wp2_with fail
        go_ret
        exact ⟨by rw [HE.out]; rfl, HB.out⟩
      · have e1 : ((r.length : Int) == (f.length : Int)) = false := by simp; omega
        have HE : Hid (fmS f = false) := Lib.hid (by rw [hfm.out, decide_eq_false hrl])
        clear hrl
        go_wp2_with fail
        go_ret
        exact ⟨by rw [HE.out]; rfl, HB.out⟩

end Go.Proofs.YthifbaacmohmnaaGreat

/- Steps and facts for an arena that keeps a row of nodes and a map of their numbers. -/
namespace Go.Proofs.YthifbaacmohmnaaGreat
open Go.RowKit Go.Maps
set_option linter.unusedVariables false
set_option linter.unusedSimpArgs false

theorem results_row_tmp {P : Program} {fn : Func} {p u : Tmp} {ty : TypeId} (h : fn.results = #[.cell p ty, .tmp u]) (tmps : Array Value) (w : World) (g : Nat) (t : TypeId) (cs : Array Value) (fr : Nat × Nat) (d : TypeDesc)
    (hp : tmps.getD p undef = .pointer (some ⟨g, 0, none⟩)) (hg : w.heap[g]? = some (.cells cs t fr))
    (hu : P.underlying ty = some d) (hd : (match d with | .struct _ | .array _ _ => true | _ => false) = true) (hi : (P.info? ty).map (·.size) = some cs.size) :
    (results fn tmps).run P w = .ok (.tuple #[.agg cs, tmps.getD u undef]) w := by
  have hp' : tmps[p]?.getD undef = .pointer (some ⟨g, 0, none⟩) := by simpa using hp
  simp [results, h, hp', asAddr, run_loadVar_row w g t ty cs fr d hg hu hd hi]

theorem fine_put {ns : List Nd} {x : Nd} (hf : FineN ns) (hr : x.right ns.length = true) (hx : NdFit x) (hn : ¬ findN ns x < ns.length) : FineN (ns ++ [x]) := by
  have hl : (ns ++ [x]).length = ns.length + 1 := by rw [List.length_append]; rfl
  have hat : ∀ j, j < ns.length → ndAt (ns ++ [x]) j = ndAt ns j := fun j hj => by unfold ndAt; rw [List.getElem?_append_left hj]
  have hlast : ndAt (ns ++ [x]) ns.length = x := by unfold ndAt; rw [List.getElem?_append_right (Nat.le_refl _), Nat.sub_self]; rfl
  have hne : ∀ j, j < ns.length → ndAt ns j ≠ x := fun j hj e => hn (by
    rcases Nat.lt_or_ge (findN ns x) ns.length with h | h
    · exact h
    · have h1 := findN_not (ns := ns) (x := x) (t := j) (by omega)
      rw [e, Nd.eqb_self] at h1; cases h1)
  refine ⟨fun j hj => ?_, fun i j hi hj e => ?_⟩
  · rw [hl] at hj
    by_cases c : j < ns.length
    · rw [hat j c]; exact hf.1 j c
    · obtain rfl : j = ns.length := by omega
      rw [hlast]; exact ⟨hr, hx⟩
  · rw [hl] at hi hj
    by_cases c : i < ns.length
    · by_cases d : j < ns.length
      · rw [hat i c, hat j d] at e; exact hf.2 i j c d e
      · obtain rfl : j = ns.length := by omega
        rw [hat i c, hlast] at e; exact absurd e (hne i c)
    · obtain rfl : i = ns.length := by omega
      by_cases d : j < ns.length
      · rw [hlast, hat j d] at e; exact absurd e.symm (hne j d)
      · omega
section
variable {ops : Array Oper} {o : Oper} {a : Act} {w : World} {K : Act → World → Prop} {Q : Exit → Act → World → Prop} {X : Prop}
theorem stepq_value {P : Program} (hgd : o.guard = none) (v : Value) (w' : World) (hr : (execOp a.eval o).run P w = .ok (.value v) w') (h : K (a.put o.dst v) w') : if Region.wanted o (yielded ops a.tmps) = true then Oper.wp P o a w K Q else X := by
  have hw : Region.wanted o (yielded ops a.tmps) = true := by simp [Region.wanted, hgd]
  rw [if_pos hw]
  unfold Oper.wp
  rw [hr]
  exact h
theorem stepq_append {P : Program} (hgd : o.guard = none) (s x : Operand) (t : TypeId) (ho : o.op = .call { callee := .builtin .append, args := #[s, x], argTypes := #[t, t] }) (v1 v2 : Value) (hs : a.eval s = v1) (hx : a.eval x = v2) {R : Value → World → Prop}
    (hrun : ∃ v w', (Builtin.append_ #[t, t] o.type #[v1, v2]).run P w = .ok v w' ∧ R v w') (h : ∀ v w', R v w' → K (a.put o.dst v) w') : if Region.wanted o (yielded ops a.tmps) = true then Oper.wp P o a w K Q else X := by
  obtain ⟨v, w', hr, hR⟩ := hrun
  refine stepq_value hgd v w' ?_ (h v w' hR)
  unfold execOp
  simp only [ho, resolve, invoke, builtin, Sem.run_bind, Sem.run_pure, Result.andThen_ok, List.map_toArray, List.map_cons, List.map_nil, hs, hx, hr]
theorem stepq_slice1 (T E : TypeId) (cs : Array Value) (hgd : o.guard = none) (x : Operand) (u : Value) (ho : o.op = .buildSlice T 1 #[(0, x)]) (hx : a.eval x = u) (hrun : ∀ w, (Instr.buildSlice T 1 #[(0, u)]).run Tryz.prog w = .ok (.slice (some ⟨w.heap.size, 0, none⟩) 1 1) (w.alloc (.cells cs E)))
    (h : ∀ g w', At w' g E cs → Below w.heap.size w w' → w.heap.size ≤ g → K (a.put o.dst (.slice (some ⟨g, 0, none⟩) 1 1)) w') : if Region.wanted o (yielded ops a.tmps) = true then Oper.wp Tryz.prog o a w K Q else X := by
  refine stepq_value hgd (.slice (some ⟨w.heap.size, 0, none⟩) 1 1) (w.alloc (.cells cs E)) ?_ (h _ _ (At.new _ _ _) ((Below.refl _ _).alloc (Nat.le_refl _) _) (Nat.le_refl _))
  unfold execOp
  simp only [ho, List.map_toArray, List.map_cons, List.map_nil, hx, Sem.run_bind, hrun, Result.andThen_ok, Sem.run_pure]
theorem stepq_mapUpdate {P : Program} (hgd : o.guard = none) (mm x v : Operand) (t : TypeId) (hop : o.op = Op.mapUpdate t mm x v) (v1 v2 v3 : Value) (h1 : a.eval mm = v1) (h2 : a.eval x = v2) (h3 : a.eval v = v3) {R : World → Prop}
    (hrun : ∃ w', (Instr.mapUpdate t v1 v2 v3).run P w = .ok () w' ∧ R w') (h : ∀ w', R w' → K (a.put o.dst undef) w') : if Region.wanted o (yielded ops a.tmps) = true then Oper.wp P o a w K Q else X := by
  have hw : Region.wanted o (yielded ops a.tmps) = true := by simp [Region.wanted, hgd]
  rw [if_pos hw]
  obtain ⟨w', hr, hR⟩ := hrun
  unfold Oper.wp
  simp [execOp, hop, h1, h2, h3, hr, Result.andThen]
  exact h w' hR
end
theorem run_node1 (x : Nd) (w : World) : (Instr.buildSlice 22 1 #[(0, .agg #[.int .i64 x.kind, .int .u64 x.set.w0, .int .u64 x.set.w1, .int .u64 x.set.w2, .int .u64 x.set.w3, .int .i64 x.a, .int .i64 x.b, .bool x.neg])]).run Tryz.prog w = .ok (.slice (some ⟨w.heap.size, 0, none⟩) 1 1) (w.alloc (.cells x.cs.toArray 61)) := by kernel_rfl
theorem append_node (w : World) (v : Value) (ns : List Nd) (x : Nd) (g8 : Nat) (ty : TypeId) (h : NdRow w 0 v ns) (h8 : At w g8 61 x.cs.toArray) (hn : ns.length ≤ 100000) :
    ∃ v' w', (Builtin.append_ #[22, 22] ty #[v, .slice (some ⟨g8, 0, none⟩) 1 1]).run Tryz.prog w = .ok v' w' ∧ (NdRow w' 0 v' (ns ++ [x]) ∧ w.grownBy w' v.ownBlock ∧ (v'.ownBlock = v.ownBlock ∨ v'.ownBlock = some w.heap.size)) := by
  obtain ⟨i, hi, hz, hsz, hby⟩ := info_parts info_node
  obtain ⟨v', w', hr, q2, q3, _, q5⟩ := run_append_own_at (P := Tryz.prog) w 0 22 ty 61 i _ 8 64 Tryz.underlying22 hi hz hsz hby rfl (by omega) v ns.length (ndL ns) h ⟨g8, 0, none⟩ 1 1 x.cs rfl (World.news_of_block h8) (by simp [Nd.cs, Value.oneCell']) (by unfold maxLen; omega) (by omega) (Nat.zero_le _)
  exact ⟨v', w', hr, NdRow.push q2, q3, q5⟩
theorem at_rangeN {w : World} {g : Nat} {ty : TypeId} {x : Nd} (h : At w g ty x.cs.toArray) : w.rangeAt g 0 x.cs := fun j v hv => by
  rw [Nat.zero_add, h.cell]; simpa using hv
theorem NdRow.drewN {w : World} {b : Nat} {v : Value} {l : List Nd} (h : NdRow w b v l) (q : Nat) : NdRow (w.drewN q) b v l := h

end Go.Proofs.YthifbaacmohmnaaGreat

/- An arena as a struct of a row of nodes and a map of their numbers that may be nil: what it is in memory; New, Len, has, Node. -/
namespace Go.Proofs.YthifbaacmohmnaaGreat
open Go.RowKit Go.Maps
set_option linter.unusedVariables false
set_option linter.unusedSimpArgs false

/-- At a lies an arena of the nodes ns, in blocks of F alone: its struct in block g, its map in m, if it has one. -/
structure AT (w : World) (a : Value) (ns : List Nd) (F : Nat → Prop) (g : Nat) (m : Option Nat) (v : Value) : Prop where
  ptr : a = .pointer (some ⟨g, 0, none⟩)
  box : At w g 69 #[v, .map m]
  row : NdRow w 0 v ns
  ids : (m = none ∧ ns = []) ∨ ∃ k, m = some k ∧ IdsAt w k ns
  fine : FineN ns
  max : ns.length ≤ 20000
  apart : m ≠ some g ∧ v.ownBlock ≠ some g ∧ (m = none ∨ v.ownBlock ≠ m)
  own : ∀ b, F b ↔ b = g ∨ m = some b ∨ v.ownBlock = some b
def AA (w : World) (a : Value) (ns : List Nd) (F : Nat → Prop) : Prop := ∃ g m v, AT w a ns F g m v
theorem AT.low {w : World} {a : Value} {ns : List Nd} {F : Nat → Prop} {g : Nat} {m : Option Nat} {v : Value} (h : AT w a ns F g m v) (b : Nat) (hb : F b) : b < w.heap.size := by
  rcases (h.own b).1 hb with rfl | e | e
  · exact h.box.lt
  · rcases h.ids with ⟨q, _⟩ | ⟨k, q, hk⟩
    · rw [q] at e; cases e
    · rw [q] at e; injection e with e; rw [← e]; exact hk.lt
  · exact (World.ownsRow.lt h.row b e).2
theorem AA.low {w : World} {a : Value} {ns : List Nd} {F : Nat → Prop} (h : AA w a ns F) (b : Nat) (hb : F b) : b < w.heap.size := by
  obtain ⟨g, m, v, h⟩ := h
  exact h.low b hb
theorem AT.keep {w w' : World} {a : Value} {ns : List Nd} {F : Nat → Prop} {g : Nat} {m : Option Nat} {v : Value} (h : AT w a ns F g m v) (hk : ∀ b, F b → w'.heap[b]? = w.heap[b]?) : AT w' a ns F g m v := by
  refine ⟨h.ptr, (hk g ((h.own g).2 (Or.inl rfl))).trans h.box, ?_, ?_, h.fine, h.max, h.apart, h.own⟩
  · obtain ⟨h1, h2⟩ := id h.row
    refine ⟨h1, ?_⟩
    rcases h2 with ⟨e, q⟩ | ⟨g', cap, cur, e, hb, hc, r⟩
    · exact Or.inl ⟨e, q⟩
    · exact Or.inr ⟨g', cap, cur, e, hb, (hk g' ((h.own g').2 (Or.inr (Or.inr (by rw [e]; rfl))))).trans hc, r⟩
  · rcases h.ids with q | ⟨k, q, hid⟩
    · exact Or.inl q
    · exact Or.inr ⟨k, q, hid.kept (hk k ((h.own k).2 (Or.inr (Or.inl q))))⟩
theorem AA.keep {w w' : World} {a : Value} {ns : List Nd} {F : Nat → Prop} (h : AA w a ns F) (hk : ∀ b, F b → w'.heap[b]? = w.heap[b]?) : AA w' a ns F := by
  obtain ⟨g, m, v, h⟩ := h
  exact ⟨g, m, v, h.keep hk⟩
theorem AT.next {w w' : World} {a : Value} {ns : List Nd} {F : Nat → Prop} {g : Nat} {m : Option Nat} {v : Value} (h : AT w a ns F g m v) (hb : Below w.heap.size w w') : AT w' a ns F g m v := h.keep (fun b hF => hb.block b (h.low b hF))
theorem AA.next {w w' : World} {a : Value} {ns : List Nd} {F : Nat → Prop} (h : AA w a ns F) (hb : Below w.heap.size w w') : AA w' a ns F := h.keep (fun b hF => hb.block b (h.low b hF))
theorem AA.drewN {w : World} {a : Value} {ns : List Nd} {F : Nat → Prop} (h : AA w a ns F) (q : Nat) : AA (w.drewN q) a ns F := h.keep (fun b hF => rfl)
theorem AA.fine {w : World} {a : Value} {ns : List Nd} {F : Nat → Prop} (h : AA w a ns F) : FineN ns := by
  obtain ⟨g, m, v, h⟩ := h
  exact h.fine

set_option maxRecDepth 100000 in
set_option maxHeartbeats 2000000 in
theorem aNew (w : World) : Calls Tryz.prog 18 #[] w fun e w' => ∃ a F, e = .returned a ∧ AA w' a [] F ∧ (∀ b, F b → w.heap.size ≤ b) ∧ Below w.heap.size w w' := by
  go_enter Tryz.func18, Tryz.ntmps18
  go_wp2_with fail
  go_ret
  have h1 : Below w.heap.size w (w.alloc (.cells #[.slice none 0 0, .map none] 69)) := (Below.refl _ _).alloc (Nat.le_refl _) _
  refine ⟨_, fun b => b = w.heap.size, rfl, ⟨w.heap.size, none, .slice none 0 0, rfl, ?_, NdRow.nil _ _, Or.inl ⟨rfl, rfl⟩, ?_, by simp, ?_, ?_⟩, ?_, h1⟩
  · exact At.new w 69 #[.slice none 0 0, .map none]
  · exact ⟨fun j hj => absurd hj (Nat.not_lt_zero _), fun i j hi => absurd hi (Nat.not_lt_zero _)⟩
  · exact ⟨(by intro e; cases e), (by intro e; cases e), Or.inl rfl⟩
  · intro b
    constructor
    · intro h
      exact Or.inl h
    · rintro (h | h | h)
      · exact h
      · cases h
      · cases h
  · rintro b h; omega

set_option maxRecDepth 100000 in
set_option maxHeartbeats 2000000 in
theorem aLen {w : World} {a : Value} {ns : List Nd} {F : Nat → Prop} (h : AA w a ns F) : Calls Tryz.prog 9 #[a] w fun e w' => e = .returned (.int .i64 ns.length) ∧ w' = w := by
  obtain ⟨g, m, v, h⟩ := h
  obtain rfl := h.ptr
  obtain ⟨A, c, rfl⟩ := h.row.len
  have hmx := h.max
  have c0 : w.cell? ⟨g, 0, none⟩ = some (.slice A ns.length c) := h.box.cell 0
  go_enter Tryz.func9, Tryz.ntmps9
  go_wp2_with fail
  go_ret
  exact ⟨rfl, rfl⟩

set_option maxRecDepth 100000 in
set_option maxHeartbeats 2000000 in
theorem aHasOf (a : Value) (n : Nat) (i : Int) (w : World) (hlen : Calls Tryz.prog 9 #[a] w fun e w' => e = .returned (.int .i64 n) ∧ w' = w) : Calls Tryz.prog 63 #[a, .int .i64 i] w fun e w' => e = .returned (.bool (aIn i n)) ∧ w' = w := by
  by_cases h0 : 0 ≤ i
  · have e0 : decide (0 ≤ i) = true := decide_eq_true h0
    have HE : Hid (aIn i n = decide (i < (n : Int))) := Lib.hid (by unfold aIn; rw [e0, Bool.true_and])
    go_enter Tryz.func63, Tryz.ntmps63
    go_wp2_with fail
    refine hlen.mono ?_
    rintro e w1 ⟨rfl, rfl⟩
    go_wp2_with fail
    go_ret
    exact ⟨by rw [HE.out]; rfl, rfl⟩
  · have e0 : decide (0 ≤ i) = false := decide_eq_false h0
    have HE : Hid (aIn i n = false) := Lib.hid (by unfold aIn; rw [e0, Bool.false_and])
    go_enter Tryz.func63, Tryz.ntmps63
    go_wp2_with fail
    go_ret
    exact ⟨by rw [HE.out]; rfl, rfl⟩
theorem aHas {w : World} {a : Value} {ns : List Nd} {F : Nat → Prop} (i : Int) (h : AA w a ns F) : Calls Tryz.prog 63 #[a, .int .i64 i] w fun e w' => e = .returned (.bool (aIn i ns.length)) ∧ w' = w := aHasOf a ns.length i w (aLen h)
theorem aIn_iff {i : Int} {n : Nat} : aIn i n = decide (0 ≤ i ∧ i < n) := by
  unfold aIn
  by_cases h0 : 0 ≤ i <;> by_cases h1 : i < (n : Int) <;> simp [h0, h1]

set_option maxRecDepth 100000 in
set_option maxHeartbeats 4000000 in
theorem aNodeZ {w : World} {a : Value} {ns : List Nd} {F : Nat → Prop} (i : Int) (h : AA w a ns F) (hi : I64 i) : Calls Tryz.prog 36 #[a, .int .i64 i] w fun e w' => ∃ y : Nd, e = .returned (.tuple #[.agg y.cs.toArray, .bool (decide (0 ≤ i ∧ i < ns.length))]) ∧ (0 ≤ i ∧ i < ns.length → y = ndAt ns i.toNat) ∧ Below w.heap.size w w' ∧ (¬ (0 ≤ i ∧ i < ns.length) → y = Nd.zero) := by
  obtain ⟨g, m, v, h⟩ := h
  obtain rfl := h.ptr
  obtain ⟨A, c, rfl⟩ := h.row.len
  have hmx := h.max
  have HT := Lib.hid h
  have HBx := Lib.hid ((Below.refl w.heap.size w).alloc (Nat.le_refl _) (.cells Nd.zero.cs.toArray 61))
  have HH : Hid (Calls Tryz.prog 63 #[.pointer (some ⟨g, 0, none⟩), .int .i64 i] (w.alloc (.cells Nd.zero.cs.toArray 61)) fun e w' => e = .returned (.bool (aIn i ns.length)) ∧ w' = w.alloc (.cells Nd.zero.cs.toArray 61)) := Lib.hid (aHas i ⟨g, m, _, HT.out.next HBx.out⟩)
  have c0 : (w.alloc (.cells Nd.zero.cs.toArray 61)).cell? ⟨g, 0, none⟩ = some (.slice A ns.length c) := (HT.out.next HBx.out).box.cell 0
  clear h
  by_cases hin : 0 ≤ i ∧ i < ns.length
  · have HIn := Lib.hid hin
    obtain ⟨j, rfl⟩ : ∃ j : Nat, i = (j : Int) := ⟨i.toNat, by omega⟩
    have hj : j < ns.length := by omega
    have h1 : (0 : Int) ≤ (j : Int) := by omega
    have h2 : (j : Int) < (ns.length : Int) := by omega
    have HV : Hid (aIn (j : Int) ns.length = true) := Lib.hid (by rw [aIn_iff, decide_eq_true HIn.out])
    obtain ⟨_, _, e1, _, h3⟩ := HT.out.row.nds (by omega)
    injection e1 with e1 e7 e3
    subst e1 e3
    clear e7
    obtain ⟨b, off, rfl, hb, hr⟩ := h3 (by omega)
    have HR := Lib.hid (hr j hj)
    obtain ⟨y, hy⟩ : ∃ y, ndAt ns j = y := ⟨_, rfl⟩
    rw [hy] at HR
    have HY := Lib.hid hy
    have hone := Nd.one y
    have HA0 : Hid ((w.alloc (.cells Nd.zero.cs.toArray 61)).rangeAt b (off + j * 8) y.cs) := Lib.hid (fun i u hu => ((bcell HBx.out).1 b _ hb).trans (HR.out i u hu))
    clear h3 hr hy hin hb
    go_enter Tryz.func36, Tryz.ntmps36
    go_wp2_with fail
    refine HH.out.mono ?_
    rintro e w1 ⟨rfl, rfl⟩
    rw [HV.out]
    go_wp2_with (first
      | (with_reducible show wpList _ _ _ ({ dst := some 17, op := .load _ _, type := _, pos := _, after := _, guard := _ } :: _) _ _
         refine wpList_load_mid rfl 61 _ rfl b (off + j * 8) rfl y.cs _ HA0.out Tryz.underlying61 rfl (by rw [Nd.cs_length]; kernel_rfl) ?_)
      | (with_reducible show wpList _ _ _ ({ dst := none, op := .store _ _ _, type := _, pos := _, after := _, guard := _ } :: _) _ _
         refine wpList_store_row rfl 61 _ _ rfl w.heap.size y.cs.toArray rfl rfl 61 Nd.zero.cs.toArray (At.new _ _ _) (by kernel_rfl) rfl hone ?_
         first | change wpList _ _ _ _ _ (boxN w y) | change Exit.then _ _ _ _ (boxN w y))
      | fail)
    exact bodyPost_ret (results_row_tmp Tryz.results36 _ _ w.heap.size 61 y.cs.toArray (0, 0) _ rfl (boxN_at w y) Tryz.underlying61 rfl (by rw [List.size_toArray, Nd.cs_length]; kernel_rfl)) rfl ⟨y, by rw [decide_eq_true HIn.out]; rfl, fun _ => by rw [Int.toNat_natCast]; exact HY.out.symm, boxN_next w y, fun h => absurd HIn.out h⟩
  · have HIn := Lib.hid hin
    have HV : Hid (aIn i ns.length = false) := Lib.hid (by rw [aIn_iff, decide_eq_false HIn.out])
    clear hin
    go_enter Tryz.func36, Tryz.ntmps36
    go_wp2_with fail
    refine HH.out.mono ?_
    rintro e w1 ⟨rfl, rfl⟩
    rw [HV.out]
    have hone := Nd.one Nd.zero
    have hb0 : (#[Value.int .i64 0, Value.int .u64 0, Value.int .u64 0, Value.int .u64 0, Value.int .u64 0, Value.int .i64 0, Value.int .i64 0, Value.bool false] : Array Value) = Nd.zero.cs.toArray := rfl
    go_wp2_with (first
      | (with_reducible show wpList _ _ _ ({ dst := none, op := .store _ _ _, type := _, pos := _, after := _, guard := _ } :: _) _ _
         refine wpList_store_row rfl 61 _ _ rfl w.heap.size Nd.zero.cs.toArray rfl rfl 61 Nd.zero.cs.toArray (At.new _ _ _) (by kernel_rfl) rfl hone ?_
         first | change wpList _ _ _ _ _ (boxN w Nd.zero) | change Exit.then _ _ _ _ (boxN w Nd.zero))
      | fail)
    exact bodyPost_ret (results_row_tmp Tryz.results36 _ _ w.heap.size 61 Nd.zero.cs.toArray (0, 0) _ rfl (boxN_at w Nd.zero) Tryz.underlying61 rfl (by rw [List.size_toArray, Nd.cs_length]; kernel_rfl)) rfl ⟨Nd.zero, by rw [decide_eq_false HIn.out]; rfl, fun h => absurd h HIn.out, boxN_next w Nd.zero, fun _ => rfl⟩
theorem aNode {w : World} {a : Value} {ns : List Nd} {F : Nat → Prop} (i : Int) (h : AA w a ns F) (hi : I64 i) : Calls Tryz.prog 36 #[a, .int .i64 i] w fun e w' => ∃ y : Nd, e = .returned (.tuple #[.agg y.cs.toArray, .bool (decide (0 ≤ i ∧ i < ns.length))]) ∧ (0 ≤ i ∧ i < ns.length → y = ndAt ns i.toNat) ∧ Below w.heap.size w w' :=
  (aNodeZ i h hi).mono (fun _ _ ⟨y, h1, h2, h3, _⟩ => ⟨y, h1, h2, h3⟩)

end Go.Proofs.YthifbaacmohmnaaGreat
