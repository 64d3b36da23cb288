/- Joined: NormEasy2, GnPut. -/
import Derived.Test.YthifbaacmohmnaaGreatMaw
import Derived.Test.YthifbaacmohmnaaGreatMav
import Derived.Test.YthifbaacmohmnaaGreatMae
import Derived.Test.YthifbaacmohmnaaGreatMau
/- All, there, kind, isAll, Star, Bytes of norm. -/
namespace Go.Proofs.YthifbaacmohmnaaGreat
open Go.RowKit
set_option linter.unusedSimpArgs false
set_option linter.unusedVariables false

section
variable {AA : World → Value → List Nd → (Nat → Prop) → Prop}
/-- One behind the other. -/
theorem Grows.seq {w w1 w2 : World} {a : Value} {ns more1 : List Nd} {F F1 : Nat → Prop} {R : List Nd → Int → Prop} {e : Ending} (g2 : ∀ b, F1 b → F b ∨ w.heap.size ≤ b) (g3 : OffF F w w1) (g : Grows AA w1 a (ns ++ more1) F1 R e w2) : Grows AA w a ns F (fun more r => ∃ m2, more = more1 ++ m2 ∧ R m2 r) e w2 := by
  obtain ⟨r, m2, F2, k0, k1, k2, k3, k4, k5, k6⟩ := g
  refine ⟨r, more1 ++ m2, F2, k0, by rw [← List.append_assoc]; exact k1, fun b q => ?_, g3.off k3 g2, by rw [← List.append_assoc]; exact k4, by rw [← List.append_assoc]; exact k5, m2, rfl, k6⟩
  rcases k2 b q with q | q
  · exact g2 b q
  · exact Or.inr (Nat.le_trans g3.size q)

theorem ListAt.next {w w' : World} {v : Value} {l : List Int} (h : ListAt w v l) (hb : Below w.heap.size w w') : ListAt w' v l := by
  obtain ⟨A, c, rfl, h⟩ := h
  refine ⟨A, c, rfl, fun hl => ?_⟩
  obtain ⟨b, off, rfl, hlt, hc⟩ := h hl
  exact ⟨b, off, rfl, Nat.lt_of_lt_of_le hlt hb.size, fun j hj => (hb.cell (p := ⟨b, off + j, none⟩) hlt).trans (hc j hj)⟩

set_option maxRecDepth 100000 in
set_option maxHeartbeats 4000000 in
theorem nThere (S : ArenaMid AA) {w : World} {a v : Value} {ns : List Nd} {F : Nat → Prop} (l : List Int) (h : AA w a ns F) (hv : ListAt w v l) (hl : l.length ≤ 20000) (hI : ∀ x ∈ l, isIn ns x) : Calls Tryz.prog 124 #[a, v] w fun e w' => e = .returned (.bool true) ∧ w' = w := by
  obtain ⟨A, c, rfl, hv⟩ := hv
  have HV := Lib.hid hv
  have HI := Lib.hid hI
  have hmx := S.max h
  have HA := Lib.hid h
  have HL := Lib.hid (S.len h)
  clear hv hI h
  go_enter Tryz.func124, Tryz.ntmps124
  go_wp2_with fail
  go_loopw [9] (fun i wr => ∃ j : Nat, j ≤ l.length ∧ i = .int .i64 j ∧ wr = w) (fun i _ => l.length - (intOf i).toNat)
  case atStart => exact ⟨0, Nat.zero_le _, rfl, rfl⟩
  case round =>
    obtain ⟨j, hj, rfl, rfl⟩ := hrel
    by_cases hjl : j < l.length
    · obtain ⟨b, off, rfl, hlt, hc⟩ := HV.out (by omega)
      have hjz : (0 : Int) ≤ (j : Int) := by omega
      have hjn : (j : Int) < (l.length : Int) := by omega
      have hin := HI.out l[j] (List.getElem_mem hjl)
      have c0 := hc j hjl
      obtain ⟨x, hx⟩ : ∃ x, l[j] = x := ⟨_, rfl⟩
      rw [hx] at hin c0
      unfold isIn at hin
      obtain ⟨hx0, hx1⟩ := hin
      have hxd0 : decide (x < 0) = false := decide_eq_false (by omega)
      have hxd1 : decide ((ns.length : Int) ≤ x) = false := decide_eq_false (by omega)
      have hxn0 : ¬ x < 0 := by omega
      have hxn1 : ¬ (ns.length : Int) ≤ x := by omega
      clear hc hx
      go_wp2_with fail
      refine HL.out.mono ?_
      rintro e w1 ⟨rfl, rfl⟩
      go_wp2_with fail
      refine ⟨⟨j + 1, by omega, by go_num, trivial⟩, by simp [intOf]; omega⟩
    · obtain rfl : j = l.length := by omega
      go_wp2_with fail
      go_ret
      exact ⟨rfl, rfl⟩

set_option maxRecDepth 100000 in
set_option maxHeartbeats 4000000 in
theorem nKind (S : ArenaMid AA) {w : World} {a : Value} {ns : List Nd} {F : Nat → Prop} (x : Int) (h : AA w a ns F) (hx : isIn ns x) : Calls Tryz.prog 163 #[a, .int .i64 x] w fun e w' => e = .returned (.int .i64 (kd ns x)) ∧ Below w.heap.size w w' := by
  have hmx := S.max h
  have HX := Lib.hid hx
  have hxI : I64 x := by unfold isIn at hx; unfold I64; omega
  have HN := Lib.hid (S.nodeIn x h hxI)
  clear h hx
  go_enter Tryz.func163, Tryz.ntmps163
  go_wp2_with fail
  refine HN.out.mono ?_
  rintro e w1 ⟨y, rfl, hy, hb1⟩
  have hy := hy HX.out
  have HB1 := Lib.hid hb1
  have HK : Hid (kd ns x = y.kind) := Lib.hid (by unfold kd; rw [← hy])
  have hone := Nd.one y
  have HXb := Lib.hid (boxN_at w1 y)
  have HBb := Lib.hid (HB1.out.trans ((boxN_next w1 y).mono HB1.out.size))
  have ck := (Nd.cells HXb.out).1
  clear hy hb1
  go_wp2_with (first
    | (with_reducible show wpList _ _ _ ({ dst := none, op := .store _ _ _, type := _, pos := _, after := _, guard := _ } :: _) _ _
       refine wpList_store_row rfl 61 _ _ rfl w1.heap.size y.cs.toArray rfl rfl 61 Nd.zero.cs.toArray (At.new _ _ _) (by kernel_rfl) rfl hone ?_
       first | change wpList _ _ _ _ _ (boxN w1 y) | change Exit.then _ _ _ _ (boxN w1 y))
    | fail)
  go_ret
  exact ⟨by rw [HK.out]; rfl, HBb.out⟩

set_option maxRecDepth 100000 in
set_option maxHeartbeats 4000000 in
theorem nIsAll (S : ArenaMid AA) {w : World} {a : Value} {ns : List Nd} {F : Nat → Prop} (x : Int) (y : Nd) (h : AA w a ns F) (hx : isIn ns x) (hy : y = ndAt ns x.toNat) : Calls Tryz.prog 126 #[a, .agg y.cs.toArray] w fun e w' => e = .returned (.bool (isAl ns x)) ∧ Below w.heap.size w w' := by
  have HX := Lib.hid hx
  have HF := Lib.hid (S.fine h)
  have HB : Hid (Below w.heap.size w (w.alloc (.cells y.cs.toArray 61))) := Lib.hid ((Below.refl _ _).alloc (Nat.le_refl _) _)
  have HA := Lib.hid (S.next h HB.out)
  have HK : Hid (kd ns x = y.kind ∧ ka ns x = y.a) := Lib.hid ⟨by unfold kd; rw [hy], by unfold ka; rw [hy]⟩
  obtain ⟨c0, c1, c2, c3, c4, c5, c6, c7⟩ := Nd.cells (At.new w 61 y.cs.toArray)
  clear h hx hy
  by_cases hk : y.kind = 6
  · have HC := Lib.hid (nKind S y.a HA.out (by have := (in_one HF.out HX.out (Or.inl (by rw [HK.out.1, hk]))).1; rwa [HK.out.2] at this))
    have HE : Hid (isAl ns x = decide (kd ns y.a = 0)) := Lib.hid (by unfold isAl; rw [HK.out.1, HK.out.2, decide_eq_true hk, Bool.true_and])
    rw [hk] at c0
    clear hk
    go_enter Tryz.func126, Tryz.ntmps126
    go_wp2_with fail
    refine HC.out.mono ?_
    rintro e w1 ⟨rfl, hb⟩
    have HB1 := Lib.hid (HB.out.trans (hb.mono HB.out.size))
    clear hb
    go_wp2_with fail
    go_ret
    exact ⟨by rw [HE.out]; rfl, HB1.out⟩
  · have HE : Hid (isAl ns x = false) := Lib.hid (by unfold isAl; rw [HK.out.1, decide_eq_false hk, Bool.false_and])
    have hkb := (int_ne hk).1
    clear hk
    go_enter Tryz.func126, Tryz.ntmps126
    go_wp2_with fail
    go_ret
    exact ⟨by rw [HE.out]; rfl, HB.out⟩

theorem list_none {s : St} : s.list.length = 0 ↔ ∀ b, b < 256 → s.has b = false := by
  have : s.list.length = 0 ↔ ∀ b : Nat, b ∉ s.list := by
    rw [List.length_eq_zero_iff]
    exact List.eq_nil_iff_forall_not_mem
  rw [this]
  constructor
  · intro h b hb
    cases e : s.has b with
    | false => rfl
    | true => exact absurd ((List.mem_filter.2 ⟨List.mem_range.2 hb, e⟩)) (h b)
  · intro h b hb
    obtain ⟨q1, q2⟩ := List.mem_filter.1 hb
    rw [h b (List.mem_range.1 q1)] at q2; cases q2

end

end Go.Proofs.YthifbaacmohmnaaGreat

/- norm's calls where an arena may get full, and nodes are any ones: put, None, Empty, Not. -/
namespace Go.Proofs.YthifbaacmohmnaaGreat
open Go.RowKit
set_option linter.unusedSimpArgs false
set_option linter.unusedVariables false

set_option maxRecDepth 100000 in
set_option maxHeartbeats 16000000 in
theorem aPutFull {w : World} {a v : Value} {ns : List Nd} {F : Nat → Prop} {g : Nat} {m : Option Nat} (x : Nd) (h : AT w a ns F g m v) (hx : NdFit x) (hn : ¬ ns.length < 20000) (hrt : x.right ns.length = true) :
    Calls Tryz.prog 23 #[a, .agg x.cs.toArray] w fun e w' => ((findN ns x < ns.length ∧ e = .returned (.tuple #[.int .i64 (findN ns x : Int), .int .i64 0])) ∨ e = .returned (.tuple #[.int .i64 0, .int .i64 4])) ∧ Below w.heap.size w w' := by
  obtain rfl := h.ptr
  obtain ⟨A, c, rfl⟩ := h.row.len
  have hA : At (w.alloc (Obj.cells x.cs.toArray 61)) w.heap.size 61 x.cs.toArray := At.new _ _ _
  have hB : Below w.heap.size w (w.alloc (Obj.cells x.cs.toArray 61)) := (Below.refl _ _).alloc (Nat.le_refl _) _
  have HB := Lib.hid hB
  have HA := Lib.hid hA
  have HX := Lib.hid hx
  have HT := Lib.hid (h.next hB)
  have HR : Hid (Calls Tryz.prog 58 #[.pointer (some ⟨g, 0, none⟩), .agg #[.int .i64 x.kind, .int .u64 x.set.w0, .int .u64 x.set.w1, .int .u64 x.set.w2, .int .u64 x.set.w3, .int .i64 x.a, .int .i64 x.b, .bool x.neg]] (w.alloc (Obj.cells x.cs.toArray 61)) fun e w' => e = .returned (.bool (x.right ns.length)) ∧ Below (w.alloc (Obj.cells x.cs.toArray 61)).heap.size (w.alloc (Obj.cells x.cs.toArray 61)) w') := Lib.hid (aFormed x ⟨g, m, _, HT.out⟩)
  obtain ⟨z0, z1, z2, z3, z4, z5, z6, z7⟩ := Nd.cells hA
  have HN := Lib.hid hn
  clear h hx hA hB hn
  go_enter Tryz.func23, Tryz.ntmps23
  go_wp2_with fail
  refine HR.out.mono ?_
  rintro e w3 ⟨rfl, hb3⟩
  clear z0 z1 z2 z3 z4 z5 z6 z7
  have HA3 := Lib.hid (HA.out.step hb3 rfl)
  have HB3 := Lib.hid (HB.out.trans (hb3.mono HB.out.size))
  have HT3 := Lib.hid (HT.out.next hb3)
  clear hb3
  obtain ⟨z0, z1, z2, z3, z4, z5, z6, z7⟩ := Nd.cells HA3.out
  have c0 := HT3.out.box.cell 0
  have c1 := HT3.out.box.cell 1
  rw [hrt]
  clear hrt
  have hlk : ∀ q, (Instr.lookup 67 (.map m) (.agg #[.int .i64 x.kind, .int .u64 x.set.w0, .int .u64 x.set.w1, .int .u64 x.set.w2, .int .u64 x.set.w3, .int .i64 x.a, .int .i64 x.b, .bool x.neg]) true).run Tryz.prog (w3.drewN q) = .ok (.tuple #[.int .i64 (if findN ns x < ns.length then (findN ns x : Int) else 0), .bool (decide (findN ns x < ns.length))]) (w3.drewN q) := fun q => look_ids (w := w3.drewN q) (by rcases HT3.out.ids with e | ⟨k, e, hk⟩; exact Or.inl e; exact Or.inr ⟨k, e, hk.kept rfl⟩) HX.out
  by_cases hlt : findN ns x < ns.length
  · rw [decide_eq_true hlt, if_pos hlt] at hlk
    have HLt := Lib.hid hlt
    clear hlt
    go_wp2_with fail
    go_quiet (fail)
    go_wp2_with fail
    go_ret2
    exact ⟨Or.inl ⟨HLt.out, rfl⟩, below_drewN' HB3.out _⟩
  · rw [decide_eq_false hlt, if_neg hlt] at hlk
    have hnm : (20000 : Int) ≤ (ns.length : Int) := by have := HN.out; omega
    have hnm2 : decide ((20000 : Int) ≤ (ns.length : Int)) = true := decide_eq_true hnm
    clear hlt
    go_wp2_with fail
    go_quiet (fail)
    go_wp2_with fail
    go_ret2
    exact ⟨Or.inr rfl, below_drewN' HB3.out _⟩

/-- What an arena does that may be full. -/
structure ArenaAny (AA : World → Value → List Nd → (Nat → Prop) → Prop) : Prop extends ArenaMid AA where
  putFull : ∀ {w : World} {a : Value} {ns : List Nd} {F : Nat → Prop} (x : Nd), AA w a ns F → NdFit x → ¬ ns.length < 20000 → x.right ns.length = true → Calls Tryz.prog 23 #[a, .agg x.cs.toArray] w fun e w' => ((findN ns x < ns.length ∧ e = .returned (.tuple #[.int .i64 (findN ns x : Int), .int .i64 0])) ∨ e = .returned (.tuple #[.int .i64 0, .int .i64 4])) ∧ Below w.heap.size w w'
/-- One whose map is known. -/
structure ArenaFix (AA : World → Value → List Nd → (Nat → Prop) → Prop) : Prop extends ArenaAny AA where
  part : ∀ {w : World} {a : Value} {ns : List Nd} {F : Nat → Prop}, AA w a ns F → 0 < ns.length → ∃ (AB : World → Value → List Nd → (Nat → Prop) → Prop) (m : Nat), ArenaAny AB ∧ AB w a ns F ∧ m < w.heap.size ∧ (∀ {w : World} {a : Value} {ns : List Nd} {F : Nat → Prop}, AB w a ns F → AA w a ns F) ∧ (∀ {w : World} {a : Value} {ns : List Nd} {F : Nat → Prop} {b : Nat} {o : Obj}, AB w a ns F → F b → w.heap[b]? = some o → (∀ cs t p, o ≠ .cells cs t p) → b = m)
theorem anyM (m : Nat) : ArenaAny (AM m) where
  toArenaMid := midM m
  putFull := fun x h hx hn hr => by obtain ⟨g, v, h⟩ := h; exact aPutFull x h hx hn hr
theorem arenaAny : ArenaAny AA where
  toArenaMid := arenaMid
  putFull := fun x h hx hn hr => by obtain ⟨g, m, v, h⟩ := h; exact aPutFull x h hx hn hr
theorem arenaFix : ArenaFix AA where
  toArenaAny := arenaAny
  part := fun {w a ns F} h h0 => by
    obtain ⟨g, m, v, h⟩ := h
    rcases id h.ids with ⟨_, q⟩ | ⟨k, rfl, hk⟩
    · rw [q] at h0; exact absurd h0 (Nat.lt_irrefl _)
    · refine ⟨AM k, k, anyM k, ⟨g, v, h⟩, hk.lt, fun h => h.aa, fun {w a ns F b o} h hb ho hn => ?_⟩
      obtain ⟨g, v, h⟩ := h
      rcases (h.own b).1 hb with rfl | q | q
      · have := h.box
        unfold At at this
        rw [this] at ho
        injection ho with ho
        exact absurd ho.symm (hn _ _ _)
      · injection q with q; exact q.symm
      · obtain ⟨_, r⟩ := id h.row
        rcases r with ⟨e, _⟩ | ⟨g', cap, cur, e, hbg, hc, _⟩
        · rw [e] at q; cases q
        · rw [e] at q
          injection q with q
          rw [← q, hc] at ho
          injection ho with ho
          exact absurd ho.symm (hn _ _ _)

section
variable {AA : World → Value → List Nd → (Nat → Prop) → Prop}
/-- What a call answers: a node, by which others may have come, or -1, as there are too many. -/
def Got (AA : World → Value → List Nd → (Nat → Prop) → Prop) (w : World) (a : Value) (ns : List Nd) (F : Nat → Prop) (R : List Nd → Int → Prop) (e : Ending) (w' : World) : Prop :=
  ∃ (r : Int) (more : List Nd) (F' : Nat → Prop), e = .returned (.int .i64 r) ∧ AA w' a (ns ++ more) F' ∧ (∀ b, F' b → F b ∨ w.heap.size ≤ b) ∧ OffF F w w' ∧ (r = -1 ∨ (isIn (ns ++ more) r ∧ R (ns ++ more) r))
theorem Got.from {w w1 w' : World} {a : Value} {ns : List Nd} {F : Nat → Prop} {R : List Nd → Int → Prop} {e : Ending} (g : Got AA w1 a ns F R e w') (hb : Below w.heap.size w w1) : Got AA w a ns F R e w' := by
  obtain ⟨r, more, F', g0, g1, g2, g3, g4⟩ := g
  refine ⟨r, more, F', g0, g1, fun b q => ?_, (OffF.of hb).off g3 (fun b q => Or.inl q), g4⟩
  rcases g2 b q with q | q
  · exact Or.inl q
  · exact Or.inr (Nat.le_trans hb.size q)
theorem Got.mono {w w' : World} {a : Value} {ns : List Nd} {F : Nat → Prop} {R R' : List Nd → Int → Prop} {e : Ending} (g : Got AA w a ns F R e w') (hr : ∀ more r, R (ns ++ more) r → FineN (ns ++ more) → isIn (ns ++ more) r → R' (ns ++ more) r) (S : ArenaMid AA) : Got AA w a ns F R' e w' := by
  obtain ⟨r, more, F', g0, g1, g2, g3, g4⟩ := g
  exact ⟨r, more, F', g0, g1, g2, g3, g4.imp id (fun q => ⟨q.1, hr more r q.2 (S.fine g1) q.1⟩)⟩
/-- A call behind another one. -/
theorem Got.seq {w w1 w' : World} {a : Value} {ns more : List Nd} {F F1 : Nat → Prop} {R : List Nd → Int → Prop} {e : Ending} (h2 : ∀ b, F1 b → F b ∨ w.heap.size ≤ b) (h3 : OffF F w w1) (g : Got AA w1 a (ns ++ more) F1 R e w') : Got AA w a ns F R e w' := by
  obtain ⟨r, more2, F', g0, g1, g2, g3, g4⟩ := g
  rw [List.append_assoc] at g1 g4
  refine ⟨r, more ++ more2, F', g0, g1, fun b q => ?_, h3.off g3 h2, g4⟩
  rcases g2 b q with q | q
  · exact h2 b q
  · exact Or.inr (Nat.le_trans h3.size q)
theorem Got.stay {w w' : World} {a : Value} {ns : List Nd} {F : Nat → Prop} {R : List Nd → Int → Prop} {r : Int} (S : ArenaMid AA) (h : AA w a ns F) (hb : Below w.heap.size w w') (hr : isIn ns r) (hR : R ns r) : Got AA w a ns F R (.returned (.int .i64 r)) w' :=
  ⟨r, [], F, rfl, by rw [List.append_nil]; exact S.next h hb, fun b q => Or.inl q, OffF.of hb, Or.inr (by rw [List.append_nil]; exact ⟨hr, hR⟩)⟩
theorem Got.no {w w' : World} {a : Value} {ns : List Nd} {F : Nat → Prop} {R : List Nd → Int → Prop} (S : ArenaMid AA) (h : AA w a ns F) (hb : Below w.heap.size w w') : Got AA w a ns F R (.returned (.int .i64 (-1))) w' :=
  ⟨-1, [], F, rfl, by rw [List.append_nil]; exact S.next h hb, fun b q => Or.inl q, OffF.of hb, Or.inl rfl⟩
theorem findN_of {ns : List Nd} {x : Nd} (hr : x.right ns.length = true) (h : findN ns x < ns.length) : ndAt ns (findN ns x) = x := by
  obtain ⟨_, p2⟩ := put_at (ns := ns) hr
  have hps : putS ns x = ns := by unfold putS; rw [if_pos hr, if_pos h]
  rw [hps] at p2; exact p2

set_option maxRecDepth 100000 in
set_option maxHeartbeats 4000000 in
/-- put of a node that may be. -/
theorem gPut (S : ArenaAny AA) {w : World} {a : Value} {ns : List Nd} {F : Nat → Prop} (x : Nd) (h : AA w a ns F) (hx : NdFit x) (hr : x.right ns.length = true) :
    Calls Tryz.prog 57 #[a, .agg x.cs.toArray] w (Got AA w a ns F fun ms r => ndAt ms r.toNat = x) := by
  by_cases hroom : ns.length < 20000
  · refine (nPutRaw S.toArenaMid x h hx hroom).mono ?_
    rintro e w1 ⟨F', rfl, hA1, hF1, ho1⟩
    have hid : putR ns x = (findN ns x : Int) := by unfold putR putId; rw [if_pos hr, if_pos hr]
    rw [hid]
    obtain ⟨p1, p2⟩ := put_at (ns := ns) hr
    by_cases hlt : findN ns x < ns.length
    · have hps : putS ns x = ns := by unfold putS; rw [if_pos hr, if_pos hlt]
      rw [hps] at hA1 p2
      exact ⟨_, [], F', rfl, by rw [List.append_nil]; exact hA1, hF1, ho1, Or.inr (by rw [List.append_nil]; exact ⟨by unfold isIn; omega, by show ndAt _ (Int.toNat _) = x; rw [Int.toNat_natCast]; exact p2⟩)⟩
    · have hps : putS ns x = ns ++ [x] := by unfold putS; rw [if_pos hr, if_neg hlt]
      have hfe : findN ns x = ns.length := by have := findN_le ns x; omega
      rw [hps] at hA1 p2
      exact ⟨_, [x], F', rfl, hA1, hF1, ho1, Or.inr ⟨by unfold isIn; rw [List.length_append, hfe]; simp; omega, by show ndAt _ (Int.toNat _) = x; rw [Int.toNat_natCast]; exact p2⟩⟩
  · have HB : Hid (Below w.heap.size w (w.alloc (.cells x.cs.toArray 61))) := Lib.hid ((Below.refl _ _).alloc (Nat.le_refl _) _)
    obtain ⟨c0, c1, c2, c3, c4, c5, c6, c7⟩ := Nd.cells (At.new w 61 x.cs.toArray)
    have HP : Hid (Calls Tryz.prog 23 #[a, .agg #[.int .i64 x.kind, .int .u64 x.set.w0, .int .u64 x.set.w1, .int .u64 x.set.w2, .int .u64 x.set.w3, .int .i64 x.a, .int .i64 x.b, .bool x.neg]] (w.alloc (.cells x.cs.toArray 61)) fun e w' => ((findN ns x < ns.length ∧ e = .returned (.tuple #[.int .i64 (findN ns x : Int), .int .i64 0])) ∨ e = .returned (.tuple #[.int .i64 0, .int .i64 4])) ∧ Below (w.alloc (.cells x.cs.toArray 61)).heap.size (w.alloc (.cells x.cs.toArray 61)) w') := Lib.hid (S.putFull x (S.next h HB.out) hx hroom hr)
    have HA := Lib.hid h
    have HR := Lib.hid hr
    clear h hx hr hroom
    go_enter Tryz.func57, Tryz.ntmps57
    go_wp2_with fail
    refine HP.out.mono ?_
    rintro e w1 ⟨he, hb⟩
    have HB1 := Lib.hid (HB.out.trans (hb.mono HB.out.size))
    clear hb
    rcases he with ⟨hlt, rfl⟩ | rfl
    · have HLt := Lib.hid hlt
      clear hlt
      go_wp2_with fail
      go_ret
      exact Got.stay S.toArenaMid HA.out HB1.out (by have := HLt.out; unfold isIn; omega) (by show ndAt _ (Int.toNat _) = x; rw [Int.toNat_natCast]; exact findN_of HR.out HLt.out)
    · go_wp2_with fail
      go_ret
      exact Got.no S.toArenaMid HA.out HB1.out

set_option maxRecDepth 100000 in
theorem gNone (S : ArenaAny AA) {w : World} {a : Value} {ns : List Nd} {F : Nat → Prop} (h : AA w a ns F) : Calls Tryz.prog 83 #[a] w (Got AA w a ns F fun ms r => kd ms r = 0) := by
  have HP := Lib.hid (gPut S ⟨0, noSt, 0, 0, false⟩ h (fit_small _ _ _ _ (by unfold I64; omega) (by unfold I64; omega) (by unfold I64; omega)) (by unfold Nd.right; rw [if_pos (Or.inl rfl)]; exact Nd.eqb_self _))
  clear h
  go_enter Tryz.func83, Tryz.ntmps83
  go_wp2_with fail
  refine HP.out.mono ?_
  rintro e w1 g
  obtain ⟨r, _, _, rfl, _⟩ := id g
  have HG := Lib.hid (g.mono (R' := fun ms r => kd ms r = 0) (fun more r q _ _ => by unfold kd; rw [q]) S.toArenaMid)
  clear g
  go_wp2_with fail
  go_ret
  exact HG.out

set_option maxRecDepth 100000 in
theorem gEmpty (S : ArenaAny AA) {w : World} {a : Value} {ns : List Nd} {F : Nat → Prop} (h : AA w a ns F) : Calls Tryz.prog 22 #[a] w (Got AA w a ns F fun ms r => kd ms r = 1) := by
  have HP := Lib.hid (gPut S ⟨1, noSt, 0, 0, false⟩ h (fit_small _ _ _ _ (by unfold I64; omega) (by unfold I64; omega) (by unfold I64; omega)) (by unfold Nd.right; rw [if_pos (Or.inr rfl)]; exact Nd.eqb_self _))
  clear h
  go_enter Tryz.func22, Tryz.ntmps22
  go_wp2_with fail
  refine HP.out.mono ?_
  rintro e w1 g
  obtain ⟨r, _, _, rfl, _⟩ := id g
  have HG := Lib.hid (g.mono (R' := fun ms r => kd ms r = 1) (fun more r q _ _ => by unfold kd; rw [q]) S.toArenaMid)
  clear g
  go_wp2_with fail
  go_ret
  exact HG.out

set_option maxRecDepth 100000 in
set_option maxHeartbeats 4000000 in
theorem gNot (S : ArenaAny AA) {w : World} {a : Value} {ns : List Nd} {F : Nat → Prop} (x : Int) (h : AA w a ns F) (hx : isIn ns x) : Calls Tryz.prog 89 #[a, .int .i64 x] w (Got AA w a ns F fun ms r => NotR ms x r) := by
  have hmx := S.max h
  have HA := Lib.hid h
  have HFi := Lib.hid (S.fine h)
  have HX := Lib.hid hx
  have hxI : I64 x := by unfold isIn at hx; unfold I64; omega
  have HN := Lib.hid (S.nodeIn x h hxI)
  have hdec : decide (0 ≤ x ∧ x < (ns.length : Int)) = true := decide_eq_true hx
  clear h hx
  go_enter Tryz.func89, Tryz.ntmps89
  go_wp2_with fail
  refine HN.out.mono ?_
  rintro e w1 ⟨y, rfl, hy, hb1⟩
  have hy := hy HX.out
  rw [hdec]
  have HB1 := Lib.hid hb1
  have HK : Hid (kd ns x = y.kind ∧ ka ns x = y.a) := Lib.hid ⟨by unfold kd; rw [← hy], by unfold ka; rw [← hy]⟩
  have hone := Nd.one y
  have HXb := Lib.hid (boxN_at w1 y)
  have HBb := Lib.hid (HB1.out.trans ((boxN_next w1 y).mono HB1.out.size))
  have ck := (Nd.cells HXb.out).1
  have c5 := (Nd.cells HXb.out).2.2.2.2.2.1
  clear hy hb1
  by_cases hk : y.kind = 6
  · have HG : Hid (Got AA w a ns F (fun ms r => NotR ms x r) (.returned (.int .i64 y.a)) (boxN w1 y)) := Lib.hid (by
      have k6 : kd ns x = 6 := by rw [HK.out.1, hk]
      have ia := (in_one HFi.out HX.out (Or.inl k6)).1
      rw [HK.out.2] at ia
      exact Got.stay S.toArenaMid HA.out HBb.out ia ⟨ia, fun _ => HK.out.2.symm, fun q => absurd k6 q⟩)
    rw [hk] at ck
    clear hk
    go_wp2_with (first
      | (with_reducible show wpList _ _ _ ({ dst := none, op := .store _ _ _, type := _, pos := _, after := _, guard := _ } :: _) _ _
         refine wpList_store_row rfl 61 _ _ rfl w1.heap.size y.cs.toArray rfl rfl 61 Nd.zero.cs.toArray (At.new _ _ _) (by kernel_rfl) rfl hone ?_
         first | change wpList _ _ _ _ _ (boxN w1 y) | change Exit.then _ _ _ _ (boxN w1 y))
      | fail)
    go_ret
    exact HG.out
  · have HP := Lib.hid (gPut S ⟨6, noSt, x, 0, false⟩ (S.next HA.out HBb.out) (fit_small _ _ _ _ (by unfold I64; omega) hxI (by unfold I64; omega)) (one_right' (Or.inl rfl) HX.out))
    have hkb := (int_ne hk).1
    have HKn := Lib.hid hk
    clear hk
    go_wp2_with (first
      | (with_reducible show wpList _ _ _ ({ dst := none, op := .store _ _ _, type := _, pos := _, after := _, guard := _ } :: _) _ _
         refine wpList_store_row rfl 61 _ _ rfl w1.heap.size y.cs.toArray rfl rfl 61 Nd.zero.cs.toArray (At.new _ _ _) (by kernel_rfl) rfl hone ?_
         first | change wpList _ _ _ _ _ (boxN w1 y) | change Exit.then _ _ _ _ (boxN w1 y))
      | fail)
    refine HP.out.mono ?_
    rintro e w2 g
    obtain ⟨r, _, _, rfl, _⟩ := id g
    have HG : Hid (Got AA w a ns F (fun ms r => NotR ms x r) (.returned (.int .i64 r)) w2) := Lib.hid ((g.from HBb.out).mono (fun more r q _ hi => ⟨hi, fun q6 => by rw [kd_up HX.out, HK.out.1] at q6; exact absurd q6 HKn.out, fun _ => ⟨by unfold kd; rw [q], by unfold ka; rw [q]⟩⟩) S.toArenaMid)
    clear g
    go_wp2_with fail
    go_ret
    exact HG.out
end

end Go.Proofs.YthifbaacmohmnaaGreat
