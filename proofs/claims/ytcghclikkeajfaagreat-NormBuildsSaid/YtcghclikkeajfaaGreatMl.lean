/- Joined: BuildNodeA, BuildNodeB, BuildNodeC, BuildNodeD, BuildNodeE, BuildNodeF, BuildNode. -/
import Derived.Test.YtcghclikkeajfaaGreatMF
import Derived.Test.YtcghclikkeajfaaGreatNormAnd
import Derived.Deep.QuietTactic
import Derived.Deep.RegionHeld3
import Derived.Test.YtcghclikkeajfaaGreatMJ
import Derived.Test.YtcghclikkeajfaaGreatBuildLooks
/- norm's builder: node, by kinds. -/
namespace Go.Proofs.YtcghclikkeajfaaGreat
open Go.RowKit Go.Shelf
set_option linter.unusedSimpArgs false
set_option linter.unusedVariables false

section
variable {AA : World → Value → List Nd → (Nat → Prop) → Prop}
def NodeK (AA : World → Value → List Nd → (Nat → Prop) → Prop) (k : Nat) (K : Int) : Prop := ∀ (t : Tr) {w : World} {a : Value} {ns : List Nd} {F : Nat → Prop} (g : Nat), t.kind = K → AA w a ns F → Canon ns → BAt w g a → ¬ F g → Safe F w (k + 1) t → formedS (k + 1) t = true → lookB (k + 1) t = false → sizeS (k + 1) t ≤ 150 → ns.length + cst (sz (k + 1) t) (k + 1) ≤ 14000 →
  Calls Tryz.prog 25 #[.pointer (some ⟨g, 0, none⟩), .agg t.cs.toArray] w (Grows AA w a ns F (NodeR ns (k + 1) t))

set_option maxRecDepth 100000 in
set_option maxHeartbeats 16000000 in
theorem bNode0 (S : ArenaMap AA) (k : Nat) : NodeK AA k 0 := by
  intro t w a ns F g hk h hc hb hgF hs hf hl hz hroom
  have hA : At (w.alloc (Obj.cells t.cs.toArray 27)) w.heap.size 27 t.cs.toArray := At.new _ _ _
  have hB : Below w.heap.size w (w.alloc (Obj.cells t.cs.toArray 27)) := (Below.refl _ _).alloc (Nat.le_refl _) _
  have hS1 : 1 ≤ sz (k + 1) t := sz_pos hf
  have hcs : 12 * sz (k + 1) t ≤ cst (sz (k + 1) t) (k + 1) := by unfold cst; omega
  have hbW : BAt (w.alloc (Obj.cells t.cs.toArray 27)) g a := hb.alloc _
  have cb : (w.alloc (Obj.cells t.cs.toArray 27)).cell? ⟨g, 0, none⟩ = some a := hbW.cell 0
  have HI := Lib.hid (hs w (OffF.refl F w))
  obtain ⟨c0, c5, c6, c7, c8⟩ := At.tr_cell hA
  obtain ⟨s1, s2, s3, s4⟩ := At.tr_set hA
  rw [hk] at c0
  rw [HI.out.2.1.1] at c5
  obtain ⟨gp, rfl⟩ := S.ptr h
  have HA := Lib.hid h
  have HC := Lib.hid hc
  have HgF := Lib.hid hgF
  have HS := Lib.hid hs
  have HK := Lib.hid hk
  have HZ := Lib.hid hz
  have HFo := Lib.hid hf
  have HLo := Lib.hid hl
  have HRoom := Lib.hid hroom
  have HS1 := Lib.hid hS1
  have HCs := Lib.hid hcs
  have HB := Lib.hid hB
  have HBW := Lib.hid hbW
  have HAt := Lib.hid hA
  have HN := Lib.hid ((nNone S.toArenaMid (S.next h hB) hc (by omega)).mono (fun _ _ g => g.from hB))
  clear h hc hb hgF hs hf hl hz hroom hS1 hcs hk hB hbW hA
  clear c5 c6 c7 c8 s1 s2 s3 s4
  go_enter Tryz.func25, Tryz.ntmps25
  go_wp2_with fail
  refine HN.out.mono ?_
  rintro e w2 ⟨r, more, F', rfl, g1, g2, g3, g4, g5, g6⟩
  have HR : Hid (NodeR ns (k + 1) t more r) := Lib.hid (by
    have e : (fun l => spansS l (k + 1) t) = fun _ => noF := by funext l; show (if _ then _ else _) = _; simp [HK.out]
    unfold NodeR
    rw [e]
    exact ⟨wide_small (by omega) (by omega) (by omega) (by omega) HS1.out, tab_none g4 g5 g6.1, by have := g6.2.1; have := HCs.out; have := HS1.out; omega⟩)
  have HG := Lib.hid (show Grows AA w (.pointer (some ⟨gp, 0, none⟩)) ns F (NodeR ns (k + 1) t) (.returned (.int .i64 r)) w2 from ⟨r, more, F', rfl, g1, g2, g3, g4, g5, HR.out⟩)
  clear g1 g2 g3 g4 g5 g6
  go_wp2_with fail
  go_ret
  exact HG.out

set_option maxRecDepth 100000 in
set_option maxHeartbeats 16000000 in
theorem bNode1 (S : ArenaMap AA) (k : Nat) : NodeK AA k 1 := by
  intro t w a ns F g hk h hc hb hgF hs hf hl hz hroom
  have hA : At (w.alloc (Obj.cells t.cs.toArray 27)) w.heap.size 27 t.cs.toArray := At.new _ _ _
  have hB : Below w.heap.size w (w.alloc (Obj.cells t.cs.toArray 27)) := (Below.refl _ _).alloc (Nat.le_refl _) _
  have hS1 : 1 ≤ sz (k + 1) t := sz_pos hf
  have hcs : 12 * sz (k + 1) t ≤ cst (sz (k + 1) t) (k + 1) := by unfold cst; omega
  have hbW : BAt (w.alloc (Obj.cells t.cs.toArray 27)) g a := hb.alloc _
  have cb : (w.alloc (Obj.cells t.cs.toArray 27)).cell? ⟨g, 0, none⟩ = some a := hbW.cell 0
  have HI := Lib.hid (hs w (OffF.refl F w))
  obtain ⟨c0, c5, c6, c7, c8⟩ := At.tr_cell hA
  obtain ⟨s1, s2, s3, s4⟩ := At.tr_set hA
  rw [hk] at c0
  rw [HI.out.2.1.1] at c5
  obtain ⟨gp, rfl⟩ := S.ptr h
  have HA := Lib.hid h
  have HC := Lib.hid hc
  have HgF := Lib.hid hgF
  have HS := Lib.hid hs
  have HK := Lib.hid hk
  have HZ := Lib.hid hz
  have HFo := Lib.hid hf
  have HLo := Lib.hid hl
  have HRoom := Lib.hid hroom
  have HS1 := Lib.hid hS1
  have HCs := Lib.hid hcs
  have HB := Lib.hid hB
  have HBW := Lib.hid hbW
  have HAt := Lib.hid hA
  have HN := Lib.hid ((nEmpty S.toArenaMid (S.next h hB) hc (by omega)).mono (fun _ _ g => g.from hB))
  clear h hc hb hgF hs hf hl hz hroom hS1 hcs hk hB hbW hA
  clear c5 c6 c7 c8 s1 s2 s3 s4
  go_enter Tryz.func25, Tryz.ntmps25
  go_wp2_with fail
  refine HN.out.mono ?_
  rintro e w2 ⟨r, more, F', rfl, g1, g2, g3, g4, g5, g6⟩
  have HR : Hid (NodeR ns (k + 1) t more r) := Lib.hid (by
    have e : (fun l => spansS l (k + 1) t) = fun _ => eqF := by funext l; show (if _ then _ else _) = _; simp [HK.out]
    unfold NodeR
    rw [e]
    exact ⟨wide_small (by omega) (by omega) (by omega) (by omega) HS1.out, tab_empty g4 g5 g6.1, by have := g6.2.1; have := HCs.out; have := HS1.out; omega⟩)
  have HG := Lib.hid (show Grows AA w (.pointer (some ⟨gp, 0, none⟩)) ns F (NodeR ns (k + 1) t) (.returned (.int .i64 r)) w2 from ⟨r, more, F', rfl, g1, g2, g3, g4, g5, HR.out⟩)
  clear g1 g2 g3 g4 g5 g6
  go_wp2_with fail
  go_ret
  exact HG.out
end

end Go.Proofs.YtcghclikkeajfaaGreat

/- norm's builder: node, by kinds. -/
namespace Go.Proofs.YtcghclikkeajfaaGreat
open Go.RowKit Go.Shelf
set_option linter.unusedSimpArgs false
set_option linter.unusedVariables false

section
variable {AA : World → Value → List Nd → (Nat → Prop) → Prop}

/-- The cells that node reads, of the builder and of its pattern. -/
def THere (t : Tr) (gp g b : Nat) (w : World) : Prop := w.cell? ⟨g, 0, none⟩ = some (.pointer (some ⟨gp, 0, none⟩)) ∧ w.cell? ⟨b, 1, none⟩ = some (.int .u64 t.set.w0) ∧ w.cell? ⟨b, 2, none⟩ = some (.int .u64 t.set.w1) ∧ w.cell? ⟨b, 3, none⟩ = some (.int .u64 t.set.w2) ∧ w.cell? ⟨b, 4, none⟩ = some (.int .u64 t.set.w3) ∧ w.cell? ⟨b, 5, none⟩ = some (.slice t.addr t.parts.length t.cap) ∧ w.cell? ⟨b, 6, none⟩ = some (.int .i64 t.lo) ∧ w.cell? ⟨b, 7, none⟩ = some (.int .i64 t.hi)
theorem there_of {t : Tr} {gp g b : Nat} {w : World} (hb : BAt w g (.pointer (some ⟨gp, 0, none⟩))) (hA : At w b 27 t.cs.toArray) (hn : t.n = t.parts.length) : THere t gp g b w := by
  obtain ⟨c0, c5, c6, c7, c8⟩ := At.tr_cell hA
  obtain ⟨s1, s2, s3, s4⟩ := At.tr_set hA
  rw [hn] at c5
  exact ⟨hb.cell 0, s1, s2, s3, s4, c5, c6, c7⟩
theorem there_off {t : Tr} {gp g : Nat} {w w2 : World} {F : Nat → Prop} (hb : BAt w g (.pointer (some ⟨gp, 0, none⟩))) (hgF : ¬ F g) (hn : t.n = t.parts.length) (hF : ∀ b, F b → b < w.heap.size) (ho : OffF F (w.alloc (Obj.cells t.cs.toArray 27)) w2) : THere t gp g w.heap.size w2 :=
  there_of ((ho.block g (by rw [World.size_alloc]; have := At.lt hb; omega) hgF).trans (At.alloc hb _)) ((ho.block _ (by rw [World.size_alloc]; omega) (fun z => by have := hF _ z; omega)).trans (At.new _ _ _)) hn

set_option maxRecDepth 100000 in
set_option maxHeartbeats 16000000 in
theorem bNode2 (S : ArenaMap AA) (k : Nat) : NodeK AA k 2 := by
  intro t w a ns F g hk h hc hb hgF hs hf hl hz hroom
  have hA : At (w.alloc (Obj.cells t.cs.toArray 27)) w.heap.size 27 t.cs.toArray := At.new _ _ _
  have hB : Below w.heap.size w (w.alloc (Obj.cells t.cs.toArray 27)) := (Below.refl _ _).alloc (Nat.le_refl _) _
  have hS1 : 1 ≤ sz (k + 1) t := sz_pos hf
  have hcs : 12 * sz (k + 1) t ≤ cst (sz (k + 1) t) (k + 1) := by unfold cst; omega
  have hbW : BAt (w.alloc (Obj.cells t.cs.toArray 27)) g a := hb.alloc _
  have cb : (w.alloc (Obj.cells t.cs.toArray 27)).cell? ⟨g, 0, none⟩ = some a := hbW.cell 0
  have HI := Lib.hid (hs w (OffF.refl F w))
  obtain ⟨c0, c5, c6, c7, c8⟩ := At.tr_cell hA
  obtain ⟨s1, s2, s3, s4⟩ := At.tr_set hA
  rw [hk] at c0
  rw [HI.out.2.1.1] at c5
  obtain ⟨gp, rfl⟩ := S.ptr h
  have HA := Lib.hid h
  have HC := Lib.hid hc
  have HgF := Lib.hid hgF
  have HS := Lib.hid hs
  have HK := Lib.hid hk
  have HZ := Lib.hid hz
  have HFo := Lib.hid hf
  have HLo := Lib.hid hl
  have HRoom := Lib.hid hroom
  have HS1 := Lib.hid hS1
  have HCs := Lib.hid hcs
  have HB := Lib.hid hB
  have HBW := Lib.hid hbW
  have HAt := Lib.hid hA
  have HT : Hid (∀ w2, OffF F (w.alloc (Obj.cells t.cs.toArray 27)) w2 → THere t gp g w.heap.size w2) := Lib.hid (fun w2 ho => there_off hb hgF HI.out.2.1.1 (S.low h) ho)
  have hT : THere t gp g w.heap.size (w.alloc (Obj.cells t.cs.toArray 27)) := HT.out _ (OffF.refl _ _)
  have HN : Hid (∀ W', Below (w.alloc (Obj.cells t.cs.toArray 27)).heap.size (w.alloc (Obj.cells t.cs.toArray 27)) W' → Calls Tryz.prog 46 #[.pointer (some ⟨gp, 0, none⟩), .agg #[.int .u64 t.set.w0, .int .u64 t.set.w1, .int .u64 t.set.w2, .int .u64 t.set.w3]] W' (Grows AA (w.alloc (Obj.cells t.cs.toArray 27)) (.pointer (some ⟨gp, 0, none⟩)) ns F (fun more r => ((t.set.list.length = 0 ∧ kd (ns ++ more) r = 0) ∨ (t.set.list.length ≠ 0 ∧ ndAt (ns ++ more) r.toNat = ⟨2, t.set, 0, 0, false⟩)) ∧ more.length ≤ 1))) := Lib.hid (fun W' hb => (nBytes S.toArenaMid t.set (S.next (S.next h hB) hb) hc HI.out.1.1 (by omega)).mono (fun _ _ g => (g.mono (fun more r q => ⟨q.1, q.2.1⟩)).from hb))
  clear h hc hb hgF hs hf hl hz hroom hS1 hcs hk hB hbW hA
  go_enter Tryz.func25, Tryz.ntmps25
  go_wp2_with fail
  refine wp_region_noPanic ?_
  refine wp_region_held_drew (S := (fun w' => THere t gp g w.heap.size w')) (by kernel_rfl) (by exact hT) (fun hHeld => ?_)
  refine wpAnyH_take (i := 0) (oi := ⟨some 23, _, _, _, _, _⟩) (v := ?_) rfl (by kernel_rfl) (by kernel_rfl) (by kernel_rfl) (fun _ _ _ h => h) (Or.inl ⟨by rfl, ?_⟩) (by exact hHeld) ?_
  rotate_left
  · (intro w hSw; (try dsimp only at hSw); go_simp; try (with_reducible rfl))
  simp only [Act.put, List.setIfInBounds_toArray, List.set_cons_zero, List.set_cons_succ]
  refine wpAnyH_take (i := 1) (oi := ⟨some 24, _, _, _, _, _⟩) (v := ?_) rfl (by kernel_rfl) (by kernel_rfl) (by kernel_rfl) (fun _ _ _ h => h) (Or.inl ⟨by rfl, ?_⟩) (by exact hHeld) ?_
  rotate_left
  · (intro w hSw; (try dsimp only at hSw); go_simp; try (with_reducible rfl))
  simp only [Act.put, List.setIfInBounds_toArray, List.set_cons_zero, List.set_cons_succ]
  refine wpAnyH_take (i := 2) (oi := ⟨some 25, _, _, _, _, _⟩) (v := ?_) rfl (by kernel_rfl) (by kernel_rfl) (by kernel_rfl) (fun _ _ _ h => h) (Or.inl ⟨by rfl, ?_⟩) (by exact hHeld) ?_
  rotate_left
  · (intro w hSw; (try dsimp only at hSw); go_simp; try (with_reducible rfl))
  simp only [Act.put, List.setIfInBounds_toArray, List.set_cons_zero, List.set_cons_succ]
  refine wpAnyH_take (i := 3) (oi := ⟨some 26, _, _, _, _, _⟩) (v := ?_) rfl (by kernel_rfl) (by kernel_rfl) (by kernel_rfl) (fun _ _ _ h => h) (Or.inl ⟨by rfl, ?_⟩) (by exact hHeld) ?_
  rotate_left
  · (intro w hSw; (try dsimp only at hSw); obtain ⟨q0, q1, q2, q3, q4, q5, q6, q7⟩ := hSw; go_simp; try (with_reducible rfl))
  simp only [Act.put, List.setIfInBounds_toArray, List.set_cons_zero, List.set_cons_succ]
  refine wpAnyH_take (i := 4) (oi := ⟨some 27, _, _, _, _, _⟩) (v := ?_) rfl (by kernel_rfl) (by kernel_rfl) (by kernel_rfl) (fun _ _ _ h => h) (Or.inl ⟨by rfl, ?_⟩) (by exact hHeld) ?_
  rotate_left
  · (intro w hSw; (try dsimp only at hSw); go_simp; try (with_reducible rfl))
  simp only [Act.put, List.setIfInBounds_toArray, List.set_cons_zero, List.set_cons_succ]
  refine wpAnyH_take (i := 5) (oi := ⟨some 28, _, _, _, _, _⟩) (v := ?_) rfl (by kernel_rfl) (by kernel_rfl) (by kernel_rfl) (fun _ _ _ h => h) (Or.inl ⟨by rfl, ?_⟩) (by exact hHeld) ?_
  rotate_left
  · (intro w hSw; (try dsimp only at hSw); obtain ⟨q0, q1, q2, q3, q4, q5, q6, q7⟩ := hSw; go_simp; try (with_reducible rfl))
  simp only [Act.put, List.setIfInBounds_toArray, List.set_cons_zero, List.set_cons_succ]
  refine wpAnyH_ready (rs := [6]) (by kernel_rfl) (by simp) ?_
  refine AllReadyH.cons (o := ⟨some 29, _, _, _, _, _⟩) rfl (fun K hK => ?_) AllReadyH.nil
  go_simp
  ((with_reducible refine (HN.out _ (Below.refl _ _).drew).mono ?_))
  rintro e w2 ⟨r, more, F', rfl, g1, g2, g3, g4, g5, g6⟩
  have HR : Hid (NodeR ns (k + 1) t more r) := Lib.hid (by
    have e : (fun l => spansS l (k + 1) t) = fun l => byteF t.set l := by funext l; show (if _ then _ else _) = _; simp [HK.out]
    unfold NodeR
    rw [e]
    have hkd : kd (ns ++ more) r = 0 ∨ kd (ns ++ more) r = 2 := by
      rcases g6.1 with ⟨_, z⟩ | ⟨_, z⟩
      · exact Or.inl z
      · exact Or.inr (byte_kind z)
    exact ⟨wide_small (by omega) (by omega) (by omega) (by omega) HS1.out, tab_bytes g4 g5 g6.1, by have := g6.2; have := HCs.out; have := HS1.out; omega⟩)
  have HG := Lib.hid (Grows.from (show Grows AA (w.alloc (Obj.cells t.cs.toArray 27)) (.pointer (some ⟨gp, 0, none⟩)) ns F (NodeR ns (k + 1) t) (.returned (.int .i64 r)) w2 from ⟨r, more, F', rfl, g1, g2, g3, g4, g5, HR.out⟩) HB.out)
  have hT : THere t gp g w.heap.size w2 := HT.out _ g3
  clear g1 g2 g3 g4 g5 g6
  dsimp only
  refine hK.out _ _ ?_ (fun hHeld => ?_)
  · exact hT
  clear hK K
  try simp only [Act.put, List.setIfInBounds_toArray, List.set_cons_zero, List.set_cons_succ]
  refine wpAnyH_take (i := 7) (oi := ⟨some 4, _, _, _, _, _⟩) (v := ?_) rfl (by kernel_rfl) (by kernel_rfl) (by kernel_rfl) (fun _ _ _ h => h) (Or.inl ⟨by rfl, ?_⟩) (by exact hHeld) ?_
  rotate_left
  · (intro w hSw; (try dsimp only at hSw); go_simp; try (with_reducible rfl))
  simp only [Act.put, List.setIfInBounds_toArray, List.set_cons_zero, List.set_cons_succ]
  refine wpAnyH_done (by kernel_rfl) ?_ _
  refine NoPanic.normal ?_
  go_wp2_with fail
  go_ret
  exact HG.out
end

end Go.Proofs.YtcghclikkeajfaaGreat

/- norm's builder: node, by kinds. -/
namespace Go.Proofs.YtcghclikkeajfaaGreat
open Go.RowKit Go.Shelf
set_option linter.unusedSimpArgs false
set_option linter.unusedVariables false

section
variable {AA : World → Value → List Nd → (Nat → Prop) → Prop}

set_option maxRecDepth 100000 in
set_option maxHeartbeats 16000000 in
theorem bNode3 (S : ArenaMap AA) (k : Nat) (IH : NodeIs AA k) : NodeK AA k 3 := by
  intro t w a ns F g hk h hc hb hgF hs hf hl hz hroom
  have hA : At (w.alloc (Obj.cells t.cs.toArray 27)) w.heap.size 27 t.cs.toArray := At.new _ _ _
  have hB : Below w.heap.size w (w.alloc (Obj.cells t.cs.toArray 27)) := (Below.refl _ _).alloc (Nat.le_refl _) _
  have hS1 : 1 ≤ sz (k + 1) t := sz_pos hf
  have hcs : 12 * sz (k + 1) t ≤ cst (sz (k + 1) t) (k + 1) := by unfold cst; omega
  have hbW : BAt (w.alloc (Obj.cells t.cs.toArray 27)) g a := hb.alloc _
  have cb : (w.alloc (Obj.cells t.cs.toArray 27)).cell? ⟨g, 0, none⟩ = some a := hbW.cell 0
  have HI := Lib.hid (hs w (OffF.refl F w))
  obtain ⟨c0, c5, c6, c7, c8⟩ := At.tr_cell hA
  obtain ⟨s1, s2, s3, s4⟩ := At.tr_set hA
  rw [hk] at c0
  rw [HI.out.2.1.1] at c5
  obtain ⟨gp, rfl⟩ := S.ptr h
  have HA := Lib.hid h
  have HC := Lib.hid hc
  have HgF := Lib.hid hgF
  have HS := Lib.hid hs
  have HK := Lib.hid hk
  have HZ := Lib.hid hz
  have HFo := Lib.hid hf
  have HLo := Lib.hid hl
  have HRoom := Lib.hid hroom
  have HS1 := Lib.hid hS1
  have HCs := Lib.hid hcs
  have HB := Lib.hid hB
  have HBW := Lib.hid hbW
  have HAt := Lib.hid hA
  have HT : Hid (∀ w2, OffF F (w.alloc (Obj.cells t.cs.toArray 27)) w2 → THere t gp g w.heap.size w2) := Lib.hid (fun w2 ho => there_off hb hgF HI.out.2.1.1 (S.low h) ho)
  have hT : THere t gp g w.heap.size (w.alloc (Obj.cells t.cs.toArray 27)) := HT.out _ (OffF.refl _ _)
  have hsum := sz_sum hz
  have hpl : sz (k + 1) t = (t.parts.map (sz k)).sum + 1 := sz_plain hz (by rw [hk]; decide)
  have hfo : ownF t = true ∧ t.parts.all (formedS k) = true := by
    have : (ownF t && t.parts.all (formedS k)) = true := hf
    rw [Bool.and_eq_true] at this
    exact this
  have hfp : ∀ p ∈ t.parts, formedS k p = true := fun p hp => List.all_eq_true.1 hfo.2 p hp
  have hlp : ∀ p ∈ t.parts, lookB k p = false := fun p hp => by
    rw [lookB_parts (by rw [hk]; decide)] at hl
    cases q : lookB k p with
    | false => rfl
    | true => rw [List.any_eq_true.2 ⟨p, hp, q⟩] at hl; cases hl
  have hzp : ∀ p ∈ t.parts, sizeS k p ≤ 150 := fun p hp => by have h1 := sz_mem (k := k) hp; have h2 := sz_int k p; omega
  have hnp : t.parts.length ≤ 149 := by
    by_cases h0 : 0 < t.parts.length
    · have h1 := sz_others (k := k) 0 h0 (fun p hp => sz_pos (hfp p hp))
      have h2 := sz_pos (hfp _ (List.getElem_mem h0))
      omega
    · omega
  have hcp : cst ((t.parts.map (sz k)).sum) k + 12 + 2 * sz (k + 1) t ≤ cst (sz (k + 1) t) (k + 1) := by
    rw [cst_succ, hpl, cst_add]
    have : 12 ≤ cst 1 k := by unfold cst; omega
    omega
  have HNs : Hid (∀ W', Below (w.alloc (Obj.cells t.cs.toArray 27)).heap.size (w.alloc (Obj.cells t.cs.toArray 27)) W' → Calls Tryz.prog 55 #[.pointer (some ⟨g, 0, none⟩), .slice t.addr t.parts.length t.cap] W' fun e w' => ∃ (v : Value) (xs : List Int) (more : List Nd) (F' : Nat → Prop), e = .returned v ∧ IdRow w' W'.heap.size v xs ∧ (∀ b, v.ownBlock = some b → ¬ F' b) ∧ AA w' (.pointer (some ⟨gp, 0, none⟩)) (ns ++ more) F' ∧ (∀ b, F' b → F b ∨ W'.heap.size ≤ b) ∧ OffF F W' w' ∧ Canon (ns ++ more) ∧ AllR (ns ++ more) k xs t.parts ∧ (∀ i (h1 : i < xs.length) (h2 : i < t.parts.length), Wide (ns ++ more) (sz k t.parts[i]) xs[i]) ∧ more.length ≤ cst ((t.parts.map (sz k)).sum) k) := Lib.hid (fun W' hb2 => bNodes S k IH t.addr t.cap t.parts g (S.next (S.next h hB) hb2) hc ((hb2.block g (At.lt hbW)).trans hbW) hgF (hs.parts.step ((OffF.of hB).then hb2) (fun b q => Or.inl q)) hfp hlp hzp (by omega) (by omega))
  have HFp := Lib.hid hfp
  have HSum := Lib.hid hsum
  have HPl := Lib.hid hpl
  have HNp := Lib.hid hnp
  have HCp := Lib.hid hcp
  clear hsum hpl hfo hfp hlp hzp hnp hcp
  clear h hc hb hgF hs hf hl hz hroom hS1 hcs hk hB hbW hA
  have HIH := Lib.hid IH
  clear IH hT
  go_enter Tryz.func25, Tryz.ntmps25
  go_wp2_with fail
  refine (HNs.out _ (Below.refl _ _)).mono ?_
  rintro e w2 ⟨v, xs, more, F', rfl, n1, n2, n3, n4, n5, n6, n7, n8, n9⟩
  have HT2 := Lib.hid (HT.out _ n5)
  have HB2 : Hid (BAt w2 g (.pointer (some ⟨gp, 0, none⟩))) := Lib.hid ((show BAt _ g (.pointer (some ⟨gp, 0, none⟩)) from HBW.out).off HgF.out n5)
  have HgF2 : Hid (¬ F' g) := Lib.hid (fun z => by
    rcases n4 _ z with z | z
    · exact HgF.out z
    · have := At.lt HBW.out; omega)
  have hsum : (xs.map (catN (ns ++ more))).sum ≤ (t.parts.map (sz k)).sum := sum_pair n7.1 (fun i h1 h2 => (n8 i h1 h2).1.1)
  have hxl := n7.1
  have hM : ∀ x ∈ xs, catN (ns ++ more) x ≤ 150 - t.parts.length := fun x hx => by
    obtain ⟨i, hi, rfl⟩ := List.getElem_of_mem hx
    have h1 := (n8 i hi (by omega)).1.1
    have h2 := sz_others (k := k) i (show i < t.parts.length by omega) (fun p hp => sz_pos (HFp.out p hp))
    have h3 := HSum.out
    omega
  have hfi := fifth t.parts.length (by have := HNp.out; omega)
  have HCt : Hid (Calls Tryz.prog 54 #[.pointer (some ⟨g, 0, none⟩), v] w2 (Grows AA w2 (.pointer (some ⟨gp, 0, none⟩)) (ns ++ more) F' fun more2 r => CatW ((ns ++ more) ++ more2) xs r ∧ more2.length ≤ (xs.map (catN (ns ++ more))).sum + 1)) := Lib.hid (by
    by_cases h0 : 0 < xs.length
    · exact (bCat S g (150 - t.parts.length) xs n3 n6 HB2.out HgF2.out n1 h0 n2 n7.2.1 hM (by rw [hxl, List.length_append]; have := HRoom.out; have := HCp.out; omega) (by have := HNp.out; omega)).mono (fun _ _ q => q.mono (fun _ _ z => ⟨z.1, by omega⟩))
    · obtain rfl : xs = [] := List.eq_nil_of_length_eq_zero (by omega)
      obtain ⟨A, c, ev⟩ := n1.len
      subst ev
      exact bCat0 S g A c n3 n6 HB2.out (by rw [List.length_append]; have := HRoom.out; have := HCp.out; omega))
  have HW1 := Lib.hid n4
  have HW2 := Lib.hid n5
  have HW3 := Lib.hid n6
  have HW4 := Lib.hid n7
  have HW5 := Lib.hid n8
  have HW6 := Lib.hid n9
  have HSm := Lib.hid hsum
  clear n1 n2 n3 n4 n5 n6 n7 n8 n9 hsum hM hfi
  go_wp2_with fail
  refine HCt.out.mono ?_
  rintro e w3 ⟨r, more2, F2, rfl, g1, g2, g3, g4, g5, g6⟩
  have HG : Hid (Grows AA w (.pointer (some ⟨gp, 0, none⟩)) ns F (NodeR ns (k + 1) t) (.returned (.int .i64 r)) w3) := Lib.hid (Grows.from (w1 := (w.alloc (Obj.cells t.cs.toArray 27))) (by
    refine ⟨r, more ++ more2, F2, rfl, by rw [← List.append_assoc]; exact g1, fun b z => ?_, HW2.out.off g3 HW1.out, by rw [← List.append_assoc]; exact g4, by rw [← List.append_assoc]; exact g5, ?_⟩
    · rcases g2 b z with z | z
      · exact HW1.out b z
      · exact Or.inr (Nat.le_trans HW2.out.size z)
    · have e : (fun l => spansS l (k + 1) t) = (fun l => (t.parts.map (spansS l k)).foldl (fun f g => thenF f g (l.length + 1)) eqF) := by funext l; show (if _ then _ else _) = _; simp [HK.out]
      unfold NodeR
      rw [e, ← List.append_assoc]
      have hpl := HPl.out
      have hsm := HSm.out
      refine ⟨wide_catL g6.1 (fun x hx => ?_) ?_ HS1.out, tab_cat g4 g6.1.1 (HW4.out.up more2), ?_⟩
      · obtain ⟨i, hi, rfl⟩ := List.getElem_of_mem hx
        have h1 := HW4.out.1
        have h2 := sz_mem (k := k) (List.getElem_mem (show i < t.parts.length by omega))
        exact ((HW5.out i hi (by omega)).up HW3.out.fine more2 (HW4.out.2.1 _ hx)).mono (by omega)
      · have e2 : xs.map (catN ((ns ++ more) ++ more2)) = xs.map (catN (ns ++ more)) := List.map_congr_left (fun x hx => catN_up HW3.out.fine more2 (HW4.out.2.1 x hx))
        rw [e2]; omega
      · rw [List.length_append]
        have h1 := HCp.out
        have h2 := HW6.out
        have h3 := g6.2
        omega) HB.out)
  clear g1 g2 g3 g4 g5 g6
  go_wp2_with fail
  go_ret
  exact HG.out
end

end Go.Proofs.YtcghclikkeajfaaGreat

/- norm's builder: node, by kinds. -/
namespace Go.Proofs.YtcghclikkeajfaaGreat
open Go.RowKit Go.Shelf
set_option linter.unusedSimpArgs false
set_option linter.unusedVariables false

section
variable {AA : World → Value → List Nd → (Nat → Prop) → Prop}

set_option maxRecDepth 100000 in
set_option maxHeartbeats 16000000 in
theorem bNode4 (S : ArenaMap AA) (k : Nat) (IH : NodeIs AA k) : NodeK AA k 4 := by
  intro t w a ns F g hk h hc hb hgF hs hf hl hz hroom
  have hA : At (w.alloc (Obj.cells t.cs.toArray 27)) w.heap.size 27 t.cs.toArray := At.new _ _ _
  have hB : Below w.heap.size w (w.alloc (Obj.cells t.cs.toArray 27)) := (Below.refl _ _).alloc (Nat.le_refl _) _
  have hS1 : 1 ≤ sz (k + 1) t := sz_pos hf
  have hcs : 12 * sz (k + 1) t ≤ cst (sz (k + 1) t) (k + 1) := by unfold cst; omega
  have hbW : BAt (w.alloc (Obj.cells t.cs.toArray 27)) g a := hb.alloc _
  have cb : (w.alloc (Obj.cells t.cs.toArray 27)).cell? ⟨g, 0, none⟩ = some a := hbW.cell 0
  have HI := Lib.hid (hs w (OffF.refl F w))
  obtain ⟨c0, c5, c6, c7, c8⟩ := At.tr_cell hA
  obtain ⟨s1, s2, s3, s4⟩ := At.tr_set hA
  rw [hk] at c0
  rw [HI.out.2.1.1] at c5
  obtain ⟨gp, rfl⟩ := S.ptr h
  have HA := Lib.hid h
  have HC := Lib.hid hc
  have HgF := Lib.hid hgF
  have HS := Lib.hid hs
  have HK := Lib.hid hk
  have HZ := Lib.hid hz
  have HFo := Lib.hid hf
  have HLo := Lib.hid hl
  have HRoom := Lib.hid hroom
  have HS1 := Lib.hid hS1
  have HCs := Lib.hid hcs
  have HB := Lib.hid hB
  have HBW := Lib.hid hbW
  have HAt := Lib.hid hA
  have HT : Hid (∀ w2, OffF F (w.alloc (Obj.cells t.cs.toArray 27)) w2 → THere t gp g w.heap.size w2) := Lib.hid (fun w2 ho => there_off hb hgF HI.out.2.1.1 (S.low h) ho)
  have hT : THere t gp g w.heap.size (w.alloc (Obj.cells t.cs.toArray 27)) := HT.out _ (OffF.refl _ _)
  have hsum := sz_sum hz
  have hpl : sz (k + 1) t = (t.parts.map (sz k)).sum + 1 := sz_plain hz (by rw [hk]; decide)
  have hfo : ownF t = true ∧ t.parts.all (formedS k) = true := by
    have : (ownF t && t.parts.all (formedS k)) = true := hf
    rw [Bool.and_eq_true] at this
    exact this
  have hfp : ∀ p ∈ t.parts, formedS k p = true := fun p hp => List.all_eq_true.1 hfo.2 p hp
  have hlp : ∀ p ∈ t.parts, lookB k p = false := fun p hp => by
    rw [lookB_parts (by rw [hk]; decide)] at hl
    cases q : lookB k p with
    | false => rfl
    | true => rw [List.any_eq_true.2 ⟨p, hp, q⟩] at hl; cases hl
  have hzp : ∀ p ∈ t.parts, sizeS k p ≤ 150 := fun p hp => by have h1 := sz_mem (k := k) hp; have h2 := sz_int k p; omega
  have hnp : t.parts.length ≤ 149 := by
    by_cases h0 : 0 < t.parts.length
    · have h1 := sz_others (k := k) 0 h0 (fun p hp => sz_pos (hfp p hp))
      have h2 := sz_pos (hfp _ (List.getElem_mem h0))
      omega
    · omega
  have hcp : cst ((t.parts.map (sz k)).sum) k + 12 + 2 * sz (k + 1) t ≤ cst (sz (k + 1) t) (k + 1) := by
    rw [cst_succ, hpl, cst_add]
    have : 12 ≤ cst 1 k := by unfold cst; omega
    omega
  have HNs : Hid (∀ W', Below (w.alloc (Obj.cells t.cs.toArray 27)).heap.size (w.alloc (Obj.cells t.cs.toArray 27)) W' → Calls Tryz.prog 55 #[.pointer (some ⟨g, 0, none⟩), .slice t.addr t.parts.length t.cap] W' fun e w' => ∃ (v : Value) (xs : List Int) (more : List Nd) (F' : Nat → Prop), e = .returned v ∧ IdRow w' W'.heap.size v xs ∧ (∀ b, v.ownBlock = some b → ¬ F' b) ∧ AA w' (.pointer (some ⟨gp, 0, none⟩)) (ns ++ more) F' ∧ (∀ b, F' b → F b ∨ W'.heap.size ≤ b) ∧ OffF F W' w' ∧ Canon (ns ++ more) ∧ AllR (ns ++ more) k xs t.parts ∧ (∀ i (h1 : i < xs.length) (h2 : i < t.parts.length), Wide (ns ++ more) (sz k t.parts[i]) xs[i]) ∧ more.length ≤ cst ((t.parts.map (sz k)).sum) k) := Lib.hid (fun W' hb2 => bNodes S k IH t.addr t.cap t.parts g (S.next (S.next h hB) hb2) hc ((hb2.block g (At.lt hbW)).trans hbW) hgF (hs.parts.step ((OffF.of hB).then hb2) (fun b q => Or.inl q)) hfp hlp hzp (by omega) (by omega))
  have HFp := Lib.hid hfp
  have HSum := Lib.hid hsum
  have HPl := Lib.hid hpl
  have HNp := Lib.hid hnp
  have HCp := Lib.hid hcp
  clear hsum hpl hfo hfp hlp hzp hnp hcp
  clear h hc hb hgF hs hf hl hz hroom hS1 hcs hk hB hbW hA
  clear IH
  go_enter Tryz.func25, Tryz.ntmps25
  go_wp2_with fail
  refine wp_region_noPanic ?_
  refine wp_region_held_drew (S := (fun w' => THere t gp g w.heap.size w')) (by kernel_rfl) (by exact hT) (fun hHeld => ?_)
  refine wpAnyH_take (i := 0) (oi := ⟨some 40, _, _, _, _, _⟩) (v := ?_) rfl (by kernel_rfl) (by kernel_rfl) (by kernel_rfl) (fun _ _ _ h => h) (Or.inl ⟨by rfl, ?_⟩) (by exact hHeld) ?_
  rotate_left
  · (intro w hSw; (try dsimp only at hSw); go_simp; try (with_reducible rfl))
  simp only [Act.put, List.setIfInBounds_toArray, List.set_cons_zero, List.set_cons_succ]
  refine wpAnyH_take (i := 1) (oi := ⟨some 41, _, _, _, _, _⟩) (v := ?_) rfl (by kernel_rfl) (by kernel_rfl) (by kernel_rfl) (fun _ _ _ h => h) (Or.inl ⟨by rfl, ?_⟩) (by exact hHeld) ?_
  rotate_left
  · (intro w hSw; (try dsimp only at hSw); go_simp; try (with_reducible rfl))
  simp only [Act.put, List.setIfInBounds_toArray, List.set_cons_zero, List.set_cons_succ]
  refine wpAnyH_take (i := 2) (oi := ⟨some 42, _, _, _, _, _⟩) (v := ?_) rfl (by kernel_rfl) (by kernel_rfl) (by kernel_rfl) (fun _ _ _ h => h) (Or.inl ⟨by rfl, ?_⟩) (by exact hHeld) ?_
  rotate_left
  · (intro w hSw; (try dsimp only at hSw); go_simp; try (with_reducible rfl))
  simp only [Act.put, List.setIfInBounds_toArray, List.set_cons_zero, List.set_cons_succ]
  refine wpAnyH_take (i := 3) (oi := ⟨some 43, _, _, _, _, _⟩) (v := ?_) rfl (by kernel_rfl) (by kernel_rfl) (by kernel_rfl) (fun _ _ _ h => h) (Or.inl ⟨by rfl, ?_⟩) (by exact hHeld) ?_
  rotate_left
  · (intro w hSw; (try dsimp only at hSw); obtain ⟨q0, q1, q2, q3, q4, q5, q6, q7⟩ := hSw; go_simp; try (with_reducible rfl))
  simp only [Act.put, List.setIfInBounds_toArray, List.set_cons_zero, List.set_cons_succ]
  refine wpAnyH_take (i := 4) (oi := ⟨some 44, _, _, _, _, _⟩) (v := ?_) rfl (by kernel_rfl) (by kernel_rfl) (by kernel_rfl) (fun _ _ _ h => h) (Or.inl ⟨by rfl, ?_⟩) (by exact hHeld) ?_
  rotate_left
  · (intro w hSw; (try dsimp only at hSw); go_simp; try (with_reducible rfl))
  simp only [Act.put, List.setIfInBounds_toArray, List.set_cons_zero, List.set_cons_succ]
  refine wpAnyH_take (i := 5) (oi := ⟨some 45, _, _, _, _, _⟩) (v := ?_) rfl (by kernel_rfl) (by kernel_rfl) (by kernel_rfl) (fun _ _ _ h => h) (Or.inl ⟨by rfl, ?_⟩) (by exact hHeld) ?_
  rotate_left
  · (intro w hSw; (try dsimp only at hSw); go_simp; try (with_reducible rfl))
  simp only [Act.put, List.setIfInBounds_toArray, List.set_cons_zero, List.set_cons_succ]
  refine wpAnyH_take (i := 6) (oi := ⟨some 46, _, _, _, _, _⟩) (v := ?_) rfl (by kernel_rfl) (by kernel_rfl) (by kernel_rfl) (fun _ _ _ h => h) (Or.inl ⟨by rfl, ?_⟩) (by exact hHeld) ?_
  rotate_left
  · (intro w hSw; (try dsimp only at hSw); obtain ⟨q0, q1, q2, q3, q4, q5, q6, q7⟩ := hSw; go_simp; try (with_reducible rfl))
  simp only [Act.put, List.setIfInBounds_toArray, List.set_cons_zero, List.set_cons_succ]
  refine wpAnyH_ready (rs := [7]) (by kernel_rfl) (by simp) ?_
  refine AllReadyH.cons (o := ⟨some 47, _, _, _, _, _⟩) rfl (fun K hK => ?_) AllReadyH.nil
  go_simp
  ((with_reducible refine (HNs.out _ (Below.refl _ _).drew).mono ?_))
  rintro e w2 ⟨v, xs, more, F', rfl, n1, n2, n3, n4, n5, n6, n7, n8, n9⟩
  have n5 : OffF F (w.alloc (Obj.cells t.cs.toArray 27)) w2 := ⟨n5.os, n5.tape, n5.output, n5.size, n5.block⟩
  have n4 : ∀ b, F' b → F b ∨ (w.alloc (Obj.cells t.cs.toArray 27)).heap.size ≤ b := n4
  have hT : THere t gp g w.heap.size w2 := HT.out _ n5
  have hms : memN (ns ++ more) 4 xs ≤ (t.parts.map (sz k)).sum := sum_pair n7.1 (fun i h1 h2 => (n8 i h1 h2).1.2.1)
  have HJ := Lib.hid (nOr S xs n3 n6 n1.list n7.2.1 (by rw [List.length_append]; have := HRoom.out; have := HCp.out; have := HSum.out; omega))
  have HW1 := Lib.hid n4
  have HW2 := Lib.hid n5
  have HW3 := Lib.hid n6
  have HW4 := Lib.hid n7
  have HW5 := Lib.hid n8
  have HW6 := Lib.hid n9
  have HMs := Lib.hid hms
  clear n1 n2 n3 n4 n5 n6 n7 n8 n9 hms
  dsimp only
  refine hK.out _ _ ?_ (fun hHeld => ?_)
  · exact hT
  clear hK K
  try simp only [Act.put, List.setIfInBounds_toArray, List.set_cons_zero, List.set_cons_succ]
  refine wpAnyH_ready (rs := [8]) (by kernel_rfl) (by simp) ?_
  refine AllReadyH.cons (o := ⟨some 48, _, _, _, _, _⟩) rfl (fun K hK => ?_) AllReadyH.nil
  go_simp
  ((with_reducible refine HJ.out.mono ?_))
  rintro e w3 ⟨r, more2, F2, rfl, g1, g2, g3, g4, g5, g6⟩
  have HG : Hid (Grows AA w (.pointer (some ⟨gp, 0, none⟩)) ns F (NodeR ns (k + 1) t) (.returned (.int .i64 r)) w3) := Lib.hid (Grows.from (w1 := (w.alloc (Obj.cells t.cs.toArray 27))) (by
    refine ⟨r, more ++ more2, F2, rfl, by rw [← List.append_assoc]; exact g1, fun b z => ?_, HW2.out.off g3 HW1.out, by rw [← List.append_assoc]; exact g4, by rw [← List.append_assoc]; exact g5, ?_⟩
    · rcases g2 b z with z | z
      · exact HW1.out b z
      · exact Or.inr (Nat.le_trans HW2.out.size z)
    · have e : (fun l => spansS l (k + 1) t) = (fun l => (t.parts.map (spansS l k)).foldl (fun f g i j => f i j || g i j) noF) := by funext l; show (if _ then _ else _) = _; simp [HK.out]
      unfold NodeR
      rw [e, ← List.append_assoc]
      have hpl := HPl.out
      have hall := HW4.out.up more2
      have hwd : ∀ i (h1 : i < xs.length) (h2 : i < t.parts.length), Wide ((ns ++ more) ++ more2) (sz k t.parts[i]) xs[i] := fun i h1 h2 => (HW5.out i h1 h2).up HW3.out.fine more2 (HW4.out.2.1 _ (List.getElem_mem h1))
      have hm2 : memN ((ns ++ more) ++ more2) 4 xs ≤ (t.parts.map (sz k)).sum := sum_pair hall.1 (fun i h1 h2 => (hwd i h1 h2).1.2.1)
      refine ⟨wide_join g4 (Or.inl rfl) hall.2.1 g6.1 (fun x hx => ?_) (by omega) HS1.out, tab_or g4 g6.1 hall, ?_⟩
      · obtain ⟨i, hi, rfl⟩ := List.getElem_of_mem hx
        have h1 := hall.1
        have h2 := sz_mem (k := k) (List.getElem_mem (show i < t.parts.length by omega))
        exact (hwd i hi (by omega)).mono (by omega)
      · rw [List.length_append]
        have h1 := HCp.out
        have h2 := HW6.out
        have h3 := g6.2.1
        have h4 := HMs.out
        omega) HB.out)
  have hT : THere t gp g w.heap.size w3 := HT.out _ (HW2.out.off g3 HW1.out)
  clear g1 g2 g3 g4 g5 g6
  dsimp only
  refine hK.out _ _ ?_ (fun hHeld => ?_)
  · exact hT
  clear hK K
  try simp only [Act.put, List.setIfInBounds_toArray, List.set_cons_zero, List.set_cons_succ]
  refine wpAnyH_take (i := 9) (oi := ⟨some 4, _, _, _, _, _⟩) (v := ?_) rfl (by kernel_rfl) (by kernel_rfl) (by kernel_rfl) (fun _ _ _ h => h) (Or.inl ⟨by rfl, ?_⟩) (by exact hHeld) ?_
  rotate_left
  · (intro w hSw; (try dsimp only at hSw); go_simp; try (with_reducible rfl))
  simp only [Act.put, List.setIfInBounds_toArray, List.set_cons_zero, List.set_cons_succ]
  refine wpAnyH_done (by kernel_rfl) ?_ _
  refine NoPanic.normal ?_
  go_wp2_with fail
  go_ret
  exact HG.out

set_option maxRecDepth 100000 in
set_option maxHeartbeats 16000000 in
theorem bNode5 (S : ArenaMap AA) (k : Nat) (IH : NodeIs AA k) : NodeK AA k 5 := by
  intro t w a ns F g hk h hc hb hgF hs hf hl hz hroom
  have hA : At (w.alloc (Obj.cells t.cs.toArray 27)) w.heap.size 27 t.cs.toArray := At.new _ _ _
  have hB : Below w.heap.size w (w.alloc (Obj.cells t.cs.toArray 27)) := (Below.refl _ _).alloc (Nat.le_refl _) _
  have hS1 : 1 ≤ sz (k + 1) t := sz_pos hf
  have hcs : 12 * sz (k + 1) t ≤ cst (sz (k + 1) t) (k + 1) := by unfold cst; omega
  have hbW : BAt (w.alloc (Obj.cells t.cs.toArray 27)) g a := hb.alloc _
  have cb : (w.alloc (Obj.cells t.cs.toArray 27)).cell? ⟨g, 0, none⟩ = some a := hbW.cell 0
  have HI := Lib.hid (hs w (OffF.refl F w))
  obtain ⟨c0, c5, c6, c7, c8⟩ := At.tr_cell hA
  obtain ⟨s1, s2, s3, s4⟩ := At.tr_set hA
  rw [hk] at c0
  rw [HI.out.2.1.1] at c5
  obtain ⟨gp, rfl⟩ := S.ptr h
  have HA := Lib.hid h
  have HC := Lib.hid hc
  have HgF := Lib.hid hgF
  have HS := Lib.hid hs
  have HK := Lib.hid hk
  have HZ := Lib.hid hz
  have HFo := Lib.hid hf
  have HLo := Lib.hid hl
  have HRoom := Lib.hid hroom
  have HS1 := Lib.hid hS1
  have HCs := Lib.hid hcs
  have HB := Lib.hid hB
  have HBW := Lib.hid hbW
  have HAt := Lib.hid hA
  have HT : Hid (∀ w2, OffF F (w.alloc (Obj.cells t.cs.toArray 27)) w2 → THere t gp g w.heap.size w2) := Lib.hid (fun w2 ho => there_off hb hgF HI.out.2.1.1 (S.low h) ho)
  have hT : THere t gp g w.heap.size (w.alloc (Obj.cells t.cs.toArray 27)) := HT.out _ (OffF.refl _ _)
  have hsum := sz_sum hz
  have hpl : sz (k + 1) t = (t.parts.map (sz k)).sum + 1 := sz_plain hz (by rw [hk]; decide)
  have hfo : ownF t = true ∧ t.parts.all (formedS k) = true := by
    have : (ownF t && t.parts.all (formedS k)) = true := hf
    rw [Bool.and_eq_true] at this
    exact this
  have hfp : ∀ p ∈ t.parts, formedS k p = true := fun p hp => List.all_eq_true.1 hfo.2 p hp
  have hlp : ∀ p ∈ t.parts, lookB k p = false := fun p hp => by
    rw [lookB_parts (by rw [hk]; decide)] at hl
    cases q : lookB k p with
    | false => rfl
    | true => rw [List.any_eq_true.2 ⟨p, hp, q⟩] at hl; cases hl
  have hzp : ∀ p ∈ t.parts, sizeS k p ≤ 150 := fun p hp => by have h1 := sz_mem (k := k) hp; have h2 := sz_int k p; omega
  have hnp : t.parts.length ≤ 149 := by
    by_cases h0 : 0 < t.parts.length
    · have h1 := sz_others (k := k) 0 h0 (fun p hp => sz_pos (hfp p hp))
      have h2 := sz_pos (hfp _ (List.getElem_mem h0))
      omega
    · omega
  have hcp : cst ((t.parts.map (sz k)).sum) k + 12 + 2 * sz (k + 1) t ≤ cst (sz (k + 1) t) (k + 1) := by
    rw [cst_succ, hpl, cst_add]
    have : 12 ≤ cst 1 k := by unfold cst; omega
    omega
  have HNs : Hid (∀ W', Below (w.alloc (Obj.cells t.cs.toArray 27)).heap.size (w.alloc (Obj.cells t.cs.toArray 27)) W' → Calls Tryz.prog 55 #[.pointer (some ⟨g, 0, none⟩), .slice t.addr t.parts.length t.cap] W' fun e w' => ∃ (v : Value) (xs : List Int) (more : List Nd) (F' : Nat → Prop), e = .returned v ∧ IdRow w' W'.heap.size v xs ∧ (∀ b, v.ownBlock = some b → ¬ F' b) ∧ AA w' (.pointer (some ⟨gp, 0, none⟩)) (ns ++ more) F' ∧ (∀ b, F' b → F b ∨ W'.heap.size ≤ b) ∧ OffF F W' w' ∧ Canon (ns ++ more) ∧ AllR (ns ++ more) k xs t.parts ∧ (∀ i (h1 : i < xs.length) (h2 : i < t.parts.length), Wide (ns ++ more) (sz k t.parts[i]) xs[i]) ∧ more.length ≤ cst ((t.parts.map (sz k)).sum) k) := Lib.hid (fun W' hb2 => bNodes S k IH t.addr t.cap t.parts g (S.next (S.next h hB) hb2) hc ((hb2.block g (At.lt hbW)).trans hbW) hgF (hs.parts.step ((OffF.of hB).then hb2) (fun b q => Or.inl q)) hfp hlp hzp (by omega) (by omega))
  have HFp := Lib.hid hfp
  have HSum := Lib.hid hsum
  have HPl := Lib.hid hpl
  have HNp := Lib.hid hnp
  have HCp := Lib.hid hcp
  clear hsum hpl hfo hfp hlp hzp hnp hcp
  clear h hc hb hgF hs hf hl hz hroom hS1 hcs hk hB hbW hA
  clear IH
  go_enter Tryz.func25, Tryz.ntmps25
  go_wp2_with fail
  refine wp_region_noPanic ?_
  refine wp_region_held_drew (S := (fun w' => THere t gp g w.heap.size w')) (by kernel_rfl) (by exact hT) (fun hHeld => ?_)
  refine wpAnyH_take (i := 0) (oi := ⟨some 51, _, _, _, _, _⟩) (v := ?_) rfl (by kernel_rfl) (by kernel_rfl) (by kernel_rfl) (fun _ _ _ h => h) (Or.inl ⟨by rfl, ?_⟩) (by exact hHeld) ?_
  rotate_left
  · (intro w hSw; (try dsimp only at hSw); go_simp; try (with_reducible rfl))
  simp only [Act.put, List.setIfInBounds_toArray, List.set_cons_zero, List.set_cons_succ]
  refine wpAnyH_take (i := 1) (oi := ⟨some 52, _, _, _, _, _⟩) (v := ?_) rfl (by kernel_rfl) (by kernel_rfl) (by kernel_rfl) (fun _ _ _ h => h) (Or.inl ⟨by rfl, ?_⟩) (by exact hHeld) ?_
  rotate_left
  · (intro w hSw; (try dsimp only at hSw); go_simp; try (with_reducible rfl))
  simp only [Act.put, List.setIfInBounds_toArray, List.set_cons_zero, List.set_cons_succ]
  refine wpAnyH_take (i := 2) (oi := ⟨some 53, _, _, _, _, _⟩) (v := ?_) rfl (by kernel_rfl) (by kernel_rfl) (by kernel_rfl) (fun _ _ _ h => h) (Or.inl ⟨by rfl, ?_⟩) (by exact hHeld) ?_
  rotate_left
  · (intro w hSw; (try dsimp only at hSw); go_simp; try (with_reducible rfl))
  simp only [Act.put, List.setIfInBounds_toArray, List.set_cons_zero, List.set_cons_succ]
  refine wpAnyH_take (i := 3) (oi := ⟨some 54, _, _, _, _, _⟩) (v := ?_) rfl (by kernel_rfl) (by kernel_rfl) (by kernel_rfl) (fun _ _ _ h => h) (Or.inl ⟨by rfl, ?_⟩) (by exact hHeld) ?_
  rotate_left
  · (intro w hSw; (try dsimp only at hSw); obtain ⟨q0, q1, q2, q3, q4, q5, q6, q7⟩ := hSw; go_simp; try (with_reducible rfl))
  simp only [Act.put, List.setIfInBounds_toArray, List.set_cons_zero, List.set_cons_succ]
  refine wpAnyH_take (i := 4) (oi := ⟨some 55, _, _, _, _, _⟩) (v := ?_) rfl (by kernel_rfl) (by kernel_rfl) (by kernel_rfl) (fun _ _ _ h => h) (Or.inl ⟨by rfl, ?_⟩) (by exact hHeld) ?_
  rotate_left
  · (intro w hSw; (try dsimp only at hSw); go_simp; try (with_reducible rfl))
  simp only [Act.put, List.setIfInBounds_toArray, List.set_cons_zero, List.set_cons_succ]
  refine wpAnyH_take (i := 5) (oi := ⟨some 56, _, _, _, _, _⟩) (v := ?_) rfl (by kernel_rfl) (by kernel_rfl) (by kernel_rfl) (fun _ _ _ h => h) (Or.inl ⟨by rfl, ?_⟩) (by exact hHeld) ?_
  rotate_left
  · (intro w hSw; (try dsimp only at hSw); go_simp; try (with_reducible rfl))
  simp only [Act.put, List.setIfInBounds_toArray, List.set_cons_zero, List.set_cons_succ]
  refine wpAnyH_take (i := 6) (oi := ⟨some 57, _, _, _, _, _⟩) (v := ?_) rfl (by kernel_rfl) (by kernel_rfl) (by kernel_rfl) (fun _ _ _ h => h) (Or.inl ⟨by rfl, ?_⟩) (by exact hHeld) ?_
  rotate_left
  · (intro w hSw; (try dsimp only at hSw); obtain ⟨q0, q1, q2, q3, q4, q5, q6, q7⟩ := hSw; go_simp; try (with_reducible rfl))
  simp only [Act.put, List.setIfInBounds_toArray, List.set_cons_zero, List.set_cons_succ]
  refine wpAnyH_ready (rs := [7]) (by kernel_rfl) (by simp) ?_
  refine AllReadyH.cons (o := ⟨some 58, _, _, _, _, _⟩) rfl (fun K hK => ?_) AllReadyH.nil
  go_simp
  ((with_reducible refine (HNs.out _ (Below.refl _ _).drew).mono ?_))
  rintro e w2 ⟨v, xs, more, F', rfl, n1, n2, n3, n4, n5, n6, n7, n8, n9⟩
  have n5 : OffF F (w.alloc (Obj.cells t.cs.toArray 27)) w2 := ⟨n5.os, n5.tape, n5.output, n5.size, n5.block⟩
  have n4 : ∀ b, F' b → F b ∨ (w.alloc (Obj.cells t.cs.toArray 27)).heap.size ≤ b := n4
  have hT : THere t gp g w.heap.size w2 := HT.out _ n5
  have hms : memN (ns ++ more) 5 xs ≤ (t.parts.map (sz k)).sum := sum_pair n7.1 (fun i h1 h2 => (n8 i h1 h2).1.2.2)
  have HJ := Lib.hid (nAnd S xs n3 n6 n1.list n7.2.1 (by rw [List.length_append]; have := HRoom.out; have := HCp.out; have := HSum.out; omega))
  have HW1 := Lib.hid n4
  have HW2 := Lib.hid n5
  have HW3 := Lib.hid n6
  have HW4 := Lib.hid n7
  have HW5 := Lib.hid n8
  have HW6 := Lib.hid n9
  have HMs := Lib.hid hms
  clear n1 n2 n3 n4 n5 n6 n7 n8 n9 hms
  dsimp only
  refine hK.out _ _ ?_ (fun hHeld => ?_)
  · exact hT
  clear hK K
  try simp only [Act.put, List.setIfInBounds_toArray, List.set_cons_zero, List.set_cons_succ]
  refine wpAnyH_ready (rs := [8]) (by kernel_rfl) (by simp) ?_
  refine AllReadyH.cons (o := ⟨some 59, _, _, _, _, _⟩) rfl (fun K hK => ?_) AllReadyH.nil
  go_simp
  ((with_reducible refine HJ.out.mono ?_))
  rintro e w3 ⟨r, more2, F2, rfl, g1, g2, g3, g4, g5, g6⟩
  have HG : Hid (Grows AA w (.pointer (some ⟨gp, 0, none⟩)) ns F (NodeR ns (k + 1) t) (.returned (.int .i64 r)) w3) := Lib.hid (Grows.from (w1 := (w.alloc (Obj.cells t.cs.toArray 27))) (by
    refine ⟨r, more ++ more2, F2, rfl, by rw [← List.append_assoc]; exact g1, fun b z => ?_, HW2.out.off g3 HW1.out, by rw [← List.append_assoc]; exact g4, by rw [← List.append_assoc]; exact g5, ?_⟩
    · rcases g2 b z with z | z
      · exact HW1.out b z
      · exact Or.inr (Nat.le_trans HW2.out.size z)
    · have e : (fun l => spansS l (k + 1) t) = (fun l => (t.parts.map (spansS l k)).foldl (fun f g i j => f i j && g i j) (otherF noF)) := by funext l; show (if _ then _ else _) = _; simp [HK.out]
      unfold NodeR
      rw [e, ← List.append_assoc]
      have hpl := HPl.out
      have hall := HW4.out.up more2
      have hwd : ∀ i (h1 : i < xs.length) (h2 : i < t.parts.length), Wide ((ns ++ more) ++ more2) (sz k t.parts[i]) xs[i] := fun i h1 h2 => (HW5.out i h1 h2).up HW3.out.fine more2 (HW4.out.2.1 _ (List.getElem_mem h1))
      have hm2 : memN ((ns ++ more) ++ more2) 5 xs ≤ (t.parts.map (sz k)).sum := sum_pair hall.1 (fun i h1 h2 => (hwd i h1 h2).1.2.2)
      refine ⟨wide_join g4 (Or.inr rfl) hall.2.1 g6.1 (fun x hx => ?_) (by omega) HS1.out, tab_and g4 g6.1 hall, ?_⟩
      · obtain ⟨i, hi, rfl⟩ := List.getElem_of_mem hx
        have h1 := hall.1
        have h2 := sz_mem (k := k) (List.getElem_mem (show i < t.parts.length by omega))
        exact (hwd i hi (by omega)).mono (by omega)
      · rw [List.length_append]
        have h1 := HCp.out
        have h2 := HW6.out
        have h3 := g6.2.1
        have h4 := HMs.out
        omega) HB.out)
  have hT : THere t gp g w.heap.size w3 := HT.out _ (HW2.out.off g3 HW1.out)
  clear g1 g2 g3 g4 g5 g6
  dsimp only
  refine hK.out _ _ ?_ (fun hHeld => ?_)
  · exact hT
  clear hK K
  try simp only [Act.put, List.setIfInBounds_toArray, List.set_cons_zero, List.set_cons_succ]
  refine wpAnyH_take (i := 9) (oi := ⟨some 4, _, _, _, _, _⟩) (v := ?_) rfl (by kernel_rfl) (by kernel_rfl) (by kernel_rfl) (fun _ _ _ h => h) (Or.inl ⟨by rfl, ?_⟩) (by exact hHeld) ?_
  rotate_left
  · (intro w hSw; (try dsimp only at hSw); go_simp; try (with_reducible rfl))
  simp only [Act.put, List.setIfInBounds_toArray, List.set_cons_zero, List.set_cons_succ]
  refine wpAnyH_done (by kernel_rfl) ?_ _
  refine NoPanic.normal ?_
  go_wp2_with fail
  go_ret
  exact HG.out
end

end Go.Proofs.YtcghclikkeajfaaGreat

/- norm's builder: node, by kinds. -/
namespace Go.Proofs.YtcghclikkeajfaaGreat
open Go.RowKit Go.Shelf
set_option linter.unusedSimpArgs false
set_option linter.unusedVariables false

section
variable {AA : World → Value → List Nd → (Nat → Prop) → Prop}

set_option maxRecDepth 100000 in
set_option maxHeartbeats 16000000 in
theorem bNode6 (S : ArenaMap AA) (k : Nat) (IH : NodeIs AA k) : NodeK AA k 6 := by
  intro t w a ns F g hk h hc hb hgF hs hf hl hz hroom
  have hA : At (w.alloc (Obj.cells t.cs.toArray 27)) w.heap.size 27 t.cs.toArray := At.new _ _ _
  have hB : Below w.heap.size w (w.alloc (Obj.cells t.cs.toArray 27)) := (Below.refl _ _).alloc (Nat.le_refl _) _
  have hS1 : 1 ≤ sz (k + 1) t := sz_pos hf
  have hcs : 12 * sz (k + 1) t ≤ cst (sz (k + 1) t) (k + 1) := by unfold cst; omega
  have hbW : BAt (w.alloc (Obj.cells t.cs.toArray 27)) g a := hb.alloc _
  have cb : (w.alloc (Obj.cells t.cs.toArray 27)).cell? ⟨g, 0, none⟩ = some a := hbW.cell 0
  have HI := Lib.hid (hs w (OffF.refl F w))
  obtain ⟨c0, c5, c6, c7, c8⟩ := At.tr_cell hA
  obtain ⟨s1, s2, s3, s4⟩ := At.tr_set hA
  rw [hk] at c0
  rw [HI.out.2.1.1] at c5
  obtain ⟨gp, rfl⟩ := S.ptr h
  have HA := Lib.hid h
  have HC := Lib.hid hc
  have HgF := Lib.hid hgF
  have HS := Lib.hid hs
  have HK := Lib.hid hk
  have HZ := Lib.hid hz
  have HFo := Lib.hid hf
  have HLo := Lib.hid hl
  have HRoom := Lib.hid hroom
  have HS1 := Lib.hid hS1
  have HCs := Lib.hid hcs
  have HB := Lib.hid hB
  have HBW := Lib.hid hbW
  have HAt := Lib.hid hA
  have HT : Hid (∀ w2, OffF F (w.alloc (Obj.cells t.cs.toArray 27)) w2 → THere t gp g w.heap.size w2) := Lib.hid (fun w2 ho => there_off hb hgF HI.out.2.1.1 (S.low h) ho)
  have hT : THere t gp g w.heap.size (w.alloc (Obj.cells t.cs.toArray 27)) := HT.out _ (OffF.refl _ _)
  have hsum := sz_sum hz
  have hpl : sz (k + 1) t = (t.parts.map (sz k)).sum + 1 := sz_plain hz (by rw [hk]; decide)
  have hfo : ownF t = true ∧ t.parts.all (formedS k) = true := by
    have : (ownF t && t.parts.all (formedS k)) = true := hf
    rw [Bool.and_eq_true] at this
    exact this
  have hfp : ∀ p ∈ t.parts, formedS k p = true := fun p hp => List.all_eq_true.1 hfo.2 p hp
  have hlp : ∀ p ∈ t.parts, lookB k p = false := fun p hp => by
    rw [lookB_parts (by rw [hk]; decide)] at hl
    cases q : lookB k p with
    | false => rfl
    | true => rw [List.any_eq_true.2 ⟨p, hp, q⟩] at hl; cases hl
  have hzp : ∀ p ∈ t.parts, sizeS k p ≤ 150 := fun p hp => by have h1 := sz_mem (k := k) hp; have h2 := sz_int k p; omega
  have hnp : t.parts.length ≤ 149 := by
    by_cases h0 : 0 < t.parts.length
    · have h1 := sz_others (k := k) 0 h0 (fun p hp => sz_pos (hfp p hp))
      have h2 := sz_pos (hfp _ (List.getElem_mem h0))
      omega
    · omega
  have hcp : cst ((t.parts.map (sz k)).sum) k + 12 + 2 * sz (k + 1) t ≤ cst (sz (k + 1) t) (k + 1) := by
    rw [cst_succ, hpl, cst_add]
    have : 12 ≤ cst 1 k := by unfold cst; omega
    omega
  have hln : t.parts.length = 1 := by
    have := hfo.1
    unfold ownF cntF at this
    have := (of_decide_eq_true this).2.1
    rw [hk] at this
    simp at this
    omega
  obtain ⟨p, hp⟩ : ∃ p, t.parts = [p] := by
    match q : t.parts, hln with
    | [p], _ => exact ⟨p, rfl⟩
  have hsp : SafeP F w k t.addr [p] := by have := hs.parts; rw [hp] at this; exact this
  obtain ⟨b, off, ha, hblt, hr⟩ := (hsp w (OffF.refl F w)).1 (by simp)
  have HRg : Hid (∀ w2, OffF F (w.alloc (Obj.cells t.cs.toArray 27)) w2 → w2.rangeAt b off p.cs) := Lib.hid (fun w2 ho => by
    obtain ⟨b', off', ha', _, hr'⟩ := (hsp w2 ((OffF.of hB).off ho (fun b z => Or.inl z))).1 (by simp)
    rw [ha] at ha'
    injection ha' with ha'
    injection ha' with e1 e2
    subst e1 e2
    have := hr' 0 (by simp)
    simpa using this)
  have hR0 : (w.alloc (Obj.cells t.cs.toArray 27)).rangeAt b off p.cs := HRg.out _ (OffF.refl _ _)
  have hmp : p ∈ t.parts := by rw [hp]; simp
  have hszp : (t.parts.map (sz k)).sum = sz k p := by rw [hp]; simp
  have HNo : Hid (∀ W', Below (w.alloc (Obj.cells t.cs.toArray 27)).heap.size (w.alloc (Obj.cells t.cs.toArray 27)) W' → Calls Tryz.prog 25 #[.pointer (some ⟨g, 0, none⟩), .agg p.cs.toArray] W' (Grows AA (w.alloc (Obj.cells t.cs.toArray 27)) (.pointer (some ⟨gp, 0, none⟩)) ns F (NodeR ns k p))) := Lib.hid (fun W' hb2 => (IH p g (S.next (S.next h hB) hb2) hc ((hb2.block g (At.lt hbW)).trans hbW) hgF ((hsp.part 0 (by simp)).step ((OffF.of hB).then hb2) (fun b q => Or.inl q)) (hfp p hmp) (hlp p hmp) (hzp p hmp) (by rw [hszp] at hcp; omega)).mono (fun _ _ g => g.from hb2))
  have hx1 : 1 ≤ sz k p := sz_pos (hfp p hmp)
  have HX1 := Lib.hid hx1
  have HP := Lib.hid hp
  have HSz := Lib.hid hszp
  have HSum := Lib.hid hsum
  have HPl := Lib.hid hpl
  have HCp := Lib.hid hcp
  have hln1 := hln
  clear hsum hpl hfo hfp hlp hzp hnp hcp
  clear hln hsp hblt hr hmp hszp hx1 hp
  have hln := hln1
  clear h hc hb hgF hs hf hl hz hroom hS1 hcs hk hB hbW hA
  clear IH hln1 c5 c6 c7 c8 s1 s2 s3 s4
  go_enter Tryz.func25, Tryz.ntmps25
  go_wp2_with fail
  refine wp_region_noPanic ?_
  refine wp_region_held_drew (S := (fun w' => THere t gp g w.heap.size w' ∧ w'.rangeAt b off p.cs)) (by kernel_rfl) (by exact ⟨hT, hR0⟩) (fun hHeld => ?_)
  refine wpAnyH_take (i := 0) (oi := ⟨some 62, _, _, _, _, _⟩) (v := ?_) rfl (by kernel_rfl) (by kernel_rfl) (by kernel_rfl) (fun _ _ _ h => h) (Or.inl ⟨by rfl, ?_⟩) (by exact hHeld) ?_
  rotate_left
  · (intro w hSw; (try dsimp only at hSw); go_simp; try (with_reducible rfl))
  simp only [Act.put, List.setIfInBounds_toArray, List.set_cons_zero, List.set_cons_succ]
  refine wpAnyH_take (i := 1) (oi := ⟨some 63, _, _, _, _, _⟩) (v := ?_) rfl (by kernel_rfl) (by kernel_rfl) (by kernel_rfl) (fun _ _ _ h => h) (Or.inl ⟨by rfl, ?_⟩) (by exact hHeld) ?_
  rotate_left
  · (intro w hSw; (try dsimp only at hSw); go_simp; try (with_reducible rfl))
  simp only [Act.put, List.setIfInBounds_toArray, List.set_cons_zero, List.set_cons_succ]
  refine wpAnyH_take (i := 2) (oi := ⟨some 64, _, _, _, _, _⟩) (v := ?_) rfl (by kernel_rfl) (by kernel_rfl) (by kernel_rfl) (fun _ _ _ h => h) (Or.inl ⟨by rfl, ?_⟩) (by exact hHeld) ?_
  rotate_left
  · (intro w hSw; (try dsimp only at hSw); go_simp; try (with_reducible rfl))
  simp only [Act.put, List.setIfInBounds_toArray, List.set_cons_zero, List.set_cons_succ]
  refine wpAnyH_take (i := 3) (oi := ⟨some 65, _, _, _, _, _⟩) (v := ?_) rfl (by kernel_rfl) (by kernel_rfl) (by kernel_rfl) (fun _ _ _ h => h) (Or.inl ⟨by rfl, ?_⟩) (by exact hHeld) ?_
  rotate_left
  · (intro w hSw; (try dsimp only at hSw); obtain ⟨⟨q0, q1, q2, q3, q4, q5, q6, q7⟩, q8⟩ := hSw; rw [ha, hln] at q5; go_simp; try (with_reducible rfl))
  simp only [Act.put, List.setIfInBounds_toArray, List.set_cons_zero, List.set_cons_succ]
  refine wpAnyH_take (i := 4) (oi := ⟨some 66, _, _, _, _, _⟩) (v := ?_) rfl (by kernel_rfl) (by kernel_rfl) (by kernel_rfl) (fun _ _ _ h => h) (Or.inl ⟨by rfl, ?_⟩) (by exact hHeld) ?_
  rotate_left
  · (intro w hSw; (try dsimp only at hSw); go_simp; try (with_reducible rfl))
  simp only [Act.put, List.setIfInBounds_toArray, List.set_cons_zero, List.set_cons_succ]
  refine wpAnyH_take (i := 5) (oi := ⟨some 67, _, _, _, _, _⟩) (v := ?_) rfl (by kernel_rfl) (by kernel_rfl) (by kernel_rfl) (fun _ _ _ h => h) (Or.inl ⟨by rfl, ?_⟩) (by exact hHeld) ?_
  rotate_left
  · (intro w hSw; (try dsimp only at hSw); go_simp; try (with_reducible rfl))
  simp only [Act.put, List.setIfInBounds_toArray, List.set_cons_zero, List.set_cons_succ]
  refine wpAnyH_take (i := 6) (oi := ⟨some 68, _, _, _, _, _⟩) (v := ?_) rfl (by kernel_rfl) (by kernel_rfl) (by kernel_rfl) (fun _ _ _ h => h) (Or.inl ⟨by rfl, ?_⟩) (by exact hHeld) ?_
  rotate_left
  · (intro w hSw; (try dsimp only at hSw); obtain ⟨⟨q0, q1, q2, q3, q4, q5, q6, q7⟩, q8⟩ := hSw; rw [ha, hln] at q5; go_simp; try (with_reducible rfl))
  simp only [Act.put, List.setIfInBounds_toArray, List.set_cons_zero, List.set_cons_succ]
  refine wpAnyH_take (i := 7) (oi := ⟨some 69, _, _, _, _, _⟩) (v := ?_) rfl (by kernel_rfl) (by kernel_rfl) (by kernel_rfl) (fun _ _ _ h => h) (Or.inl ⟨by rfl, ?_⟩) (by exact hHeld) ?_
  rotate_left
  · (intro w hSw; (try dsimp only at hSw); go_simp; try (with_reducible rfl))
  simp only [Act.put, List.setIfInBounds_toArray, List.set_cons_zero, List.set_cons_succ]
  refine wpAnyH_take (i := 8) (oi := ⟨some 70, _, _, _, _, _⟩) (v := _) rfl (by kernel_rfl) (by kernel_rfl) (by kernel_rfl) (fun _ _ _ h => h) (yieldsIf_load_mid (by rfl) 27 _ rfl b off rfl p.cs _ (fun _ h => h.2) Tryz.underlying27 rfl (by rw [Tr.cs_length]; kernel_rfl)) (by exact hHeld) ?_
  simp only [Act.put, List.setIfInBounds_toArray, List.set_cons_zero, List.set_cons_succ]
  refine wpAnyH_ready (rs := [9]) (by kernel_rfl) (by simp) ?_
  refine AllReadyH.cons (o := ⟨some 71, _, _, _, _, _⟩) rfl (fun K hK => ?_) AllReadyH.nil
  go_simp
  ((with_reducible refine (HNo.out _ (Below.refl _ _).drew).mono ?_))
  rintro e w2 ⟨x, more, F', rfl, n3, n4, n5, n6, n7, n8⟩
  have hT : THere t gp g w.heap.size w2 := HT.out _ n5
  have hR0 := HRg.out _ n5
  have HJ := Lib.hid (nNot S.toArenaMid x n3 n6 n7 (by rw [List.length_append]; have h1 := HRoom.out; have h2 := HCp.out; rw [HSz.out] at h2; have := n8.2.2; omega))
  have HW1 := Lib.hid n4
  have HW2 := Lib.hid n5
  have HW3 := Lib.hid n6
  have HW4 := Lib.hid n7
  have HW5 := Lib.hid n8
  clear n3 n4 n5 n6 n7 n8
  dsimp only
  refine hK.out _ _ ?_ (fun hHeld => ?_)
  · exact ⟨hT, hR0⟩
  clear hK K
  try simp only [Act.put, List.setIfInBounds_toArray, List.set_cons_zero, List.set_cons_succ]
  refine wpAnyH_ready (rs := [10]) (by kernel_rfl) (by simp) ?_
  refine AllReadyH.cons (o := ⟨some 72, _, _, _, _, _⟩) rfl (fun K hK => ?_) AllReadyH.nil
  go_simp
  ((with_reducible refine HJ.out.mono ?_))
  rintro e w3 ⟨r, more2, F2, rfl, g1, g2, g3, g4, g5, g6⟩
  have HG : Hid (Grows AA w (.pointer (some ⟨gp, 0, none⟩)) ns F (NodeR ns (k + 1) t) (.returned (.int .i64 r)) w3) := Lib.hid (Grows.from (w1 := (w.alloc (Obj.cells t.cs.toArray 27))) (by
    refine ⟨r, more ++ more2, F2, rfl, by rw [← List.append_assoc]; exact g1, fun b z => ?_, HW2.out.off g3 HW1.out, by rw [← List.append_assoc]; exact g4, by rw [← List.append_assoc]; exact g5, ?_⟩
    · rcases g2 b z with z | z
      · exact HW1.out b z
      · exact Or.inr (Nat.le_trans HW2.out.size z)
    · have e : (fun l => spansS l (k + 1) t) = (fun l => otherF (spansS l k p)) := by funext l; show (if _ then _ else _) = _; simp [HK.out, HP.out]
      unfold NodeR
      rw [e, ← List.append_assoc]
      have hpl := HPl.out
      have hsz := HSz.out
      refine ⟨wide_not g4 (HW4.out.up more2) g6.1 ((HW5.out.1.up HW3.out.fine more2 HW4.out).mono (by omega)) HS1.out, tab_not g4 (HW4.out.up more2) g6.1 (HW5.out.2.1.up HW4.out more2), ?_⟩
      rw [List.length_append]
      have h1 := HCp.out
      have h2 := HW5.out.2.2
      have h3 := g6.2.1
      rw [hsz] at h1
      omega) HB.out)
  have hT : THere t gp g w.heap.size w3 := HT.out _ (HW2.out.off g3 HW1.out)
  have hR0 := HRg.out _ (HW2.out.off g3 HW1.out)
  clear g1 g2 g3 g4 g5 g6
  dsimp only
  refine hK.out _ _ ?_ (fun hHeld => ?_)
  · exact ⟨hT, hR0⟩
  clear hK K
  try simp only [Act.put, List.setIfInBounds_toArray, List.set_cons_zero, List.set_cons_succ]
  refine wpAnyH_take (i := 11) (oi := ⟨some 4, _, _, _, _, _⟩) (v := ?_) rfl (by kernel_rfl) (by kernel_rfl) (by kernel_rfl) (fun _ _ _ h => h) (Or.inl ⟨by rfl, ?_⟩) (by exact hHeld) ?_
  rotate_left
  · (intro w hSw; (try dsimp only at hSw); go_simp; try (with_reducible rfl))
  simp only [Act.put, List.setIfInBounds_toArray, List.set_cons_zero, List.set_cons_succ]
  refine wpAnyH_done (by kernel_rfl) ?_ _
  refine NoPanic.normal ?_
  go_wp2_with fail
  go_ret
  exact HG.out
end

end Go.Proofs.YtcghclikkeajfaaGreat

/- norm's builder: node, by kinds. -/
namespace Go.Proofs.YtcghclikkeajfaaGreat
open Go.RowKit Go.Shelf
set_option linter.unusedSimpArgs false
set_option linter.unusedVariables false

section
variable {AA : World → Value → List Nd → (Nat → Prop) → Prop}

def TimesIs (AA : World → Value → List Nd → (Nat → Prop) → Prop) : Prop := ∀ {w : World} {a : Value} {ns : List Nd} {F : Nat → Prop} {f : List Nat → Tbl} (g n : Nat) (x lo hi : Int), AA w a ns F → Canon ns → BAt w g a → ¬ F g → isIn ns x → Wide ns n x → TabR ns x f → 1 ≤ n → (0 ≤ lo ∧ lo ≤ 20 ∧ (hi = -1 ∨ (lo ≤ hi ∧ 1 ≤ hi ∧ hi ≤ 20))) → n * (timesS lo hi).toNat ≤ 150 → ns.length ≤ 14000 →
  Calls Tryz.prog 58 #[.pointer (some ⟨g, 0, none⟩), .int .i64 x, .int .i64 lo, .int .i64 hi] w (Grows AA w a ns F fun more r => Wide (ns ++ more) (n * (timesS lo hi).toNat + 1) r ∧ TabR (ns ++ more) r (fun l => timesT (f l) (l.length + 1) lo.toNat hi) ∧ more.length ≤ 3 + 2 * (n * (timesS lo hi).toNat) + 5 * (timesS lo hi).toNat)
theorem cst_times {n T k : Nat} (hn : 1 ≤ n) (hT : 1 ≤ T) : 3 + 2 * (n * T) + 5 * T + cst n k ≤ cst (n * T + 1) (k + 1) := by
  obtain ⟨m, rfl⟩ : ∃ m, T = m + 1 := ⟨T - 1, by omega⟩
  have e : n * (m + 1) = n * m + n := Nat.mul_succ n m
  rw [cst_succ, e, cst_add, cst_add]
  have h1 : 12 ≤ cst 1 k := by unfold cst; omega
  have h2 : 12 * (n * m) ≤ cst (n * m) k := by unfold cst; omega
  have h3 : 1 * m ≤ n * m := Nat.mul_le_mul_right m hn
  omega

set_option maxRecDepth 100000 in
set_option maxHeartbeats 16000000 in
theorem bNode7 (S : ArenaMap AA) (k : Nat) (IH : NodeIs AA k) (HTi : TimesIs AA) : NodeK AA k 7 := by
  intro t w a ns F g hk h hc hb hgF hs hf hl hz hroom
  have hA : At (w.alloc (Obj.cells t.cs.toArray 27)) w.heap.size 27 t.cs.toArray := At.new _ _ _
  have hB : Below w.heap.size w (w.alloc (Obj.cells t.cs.toArray 27)) := (Below.refl _ _).alloc (Nat.le_refl _) _
  have hS1 : 1 ≤ sz (k + 1) t := sz_pos hf
  have hcs : 12 * sz (k + 1) t ≤ cst (sz (k + 1) t) (k + 1) := by unfold cst; omega
  have hbW : BAt (w.alloc (Obj.cells t.cs.toArray 27)) g a := hb.alloc _
  have cb : (w.alloc (Obj.cells t.cs.toArray 27)).cell? ⟨g, 0, none⟩ = some a := hbW.cell 0
  have HI := Lib.hid (hs w (OffF.refl F w))
  obtain ⟨c0, c5, c6, c7, c8⟩ := At.tr_cell hA
  obtain ⟨s1, s2, s3, s4⟩ := At.tr_set hA
  rw [hk] at c0
  rw [HI.out.2.1.1] at c5
  obtain ⟨gp, rfl⟩ := S.ptr h
  have HA := Lib.hid h
  have HC := Lib.hid hc
  have HgF := Lib.hid hgF
  have HS := Lib.hid hs
  have HK := Lib.hid hk
  have HZ := Lib.hid hz
  have HFo := Lib.hid hf
  have HLo := Lib.hid hl
  have HRoom := Lib.hid hroom
  have HS1 := Lib.hid hS1
  have HCs := Lib.hid hcs
  have HB := Lib.hid hB
  have HBW := Lib.hid hbW
  have HAt := Lib.hid hA
  have HT : Hid (∀ w2, OffF F (w.alloc (Obj.cells t.cs.toArray 27)) w2 → THere t gp g w.heap.size w2) := Lib.hid (fun w2 ho => there_off hb hgF HI.out.2.1.1 (S.low h) ho)
  have hT : THere t gp g w.heap.size (w.alloc (Obj.cells t.cs.toArray 27)) := HT.out _ (OffF.refl _ _)
  have hsum := sz_sum hz
  have hfo : ownF t = true ∧ t.parts.all (formedS k) = true := by
    have : (ownF t && t.parts.all (formedS k)) = true := hf
    rw [Bool.and_eq_true] at this
    exact this
  have hfp : ∀ p ∈ t.parts, formedS k p = true := fun p hp => List.all_eq_true.1 hfo.2 p hp
  have hlp : ∀ p ∈ t.parts, lookB k p = false := fun p hp => by
    rw [lookB_parts (by rw [hk]; decide)] at hl
    cases q : lookB k p with
    | false => rfl
    | true => rw [List.any_eq_true.2 ⟨p, hp, q⟩] at hl; cases hl
  have hzp : ∀ p ∈ t.parts, sizeS k p ≤ 150 := fun p hp => by have h1 := sz_mem (k := k) hp; have h2 := sz_int k p; omega
  have htf : timesF t := by
    have := hfo.1
    unfold ownF at this
    exact (of_decide_eq_true this).2.2.2.2.2 hk
  have hT1 : 1 ≤ (timesS t.lo t.hi).toNat := by have := timesS_ge t.lo t.hi; omega
  have hst := sz_times hz hk
  have hcp : cst ((t.parts.map (sz k)).sum) k ≤ cst (sz (k + 1) t) (k + 1) := by
    rw [cst_succ]
    have := cst_mono (k := k) (show (t.parts.map (sz k)).sum ≤ sz (k + 1) t by omega)
    omega
  have hln : t.parts.length = 1 := by
    have := hfo.1
    unfold ownF cntF at this
    have := (of_decide_eq_true this).2.1
    rw [hk] at this
    simp at this
    omega
  obtain ⟨p, hp⟩ : ∃ p, t.parts = [p] := by
    match q : t.parts, hln with
    | [p], _ => exact ⟨p, rfl⟩
  have hsp : SafeP F w k t.addr [p] := by have := hs.parts; rw [hp] at this; exact this
  obtain ⟨b, off, ha, hblt, hr⟩ := (hsp w (OffF.refl F w)).1 (by simp)
  have HRg : Hid (∀ w2, OffF F (w.alloc (Obj.cells t.cs.toArray 27)) w2 → w2.rangeAt b off p.cs) := Lib.hid (fun w2 ho => by
    obtain ⟨b', off', ha', _, hr'⟩ := (hsp w2 ((OffF.of hB).off ho (fun b z => Or.inl z))).1 (by simp)
    rw [ha] at ha'
    injection ha' with ha'
    injection ha' with e1 e2
    subst e1 e2
    have := hr' 0 (by simp)
    simpa using this)
  have hR0 : (w.alloc (Obj.cells t.cs.toArray 27)).rangeAt b off p.cs := HRg.out _ (OffF.refl _ _)
  have hmp : p ∈ t.parts := by rw [hp]; simp
  have hszp : (t.parts.map (sz k)).sum = sz k p := by rw [hp]; simp
  have HNo : Hid (∀ W', Below (w.alloc (Obj.cells t.cs.toArray 27)).heap.size (w.alloc (Obj.cells t.cs.toArray 27)) W' → Calls Tryz.prog 25 #[.pointer (some ⟨g, 0, none⟩), .agg p.cs.toArray] W' (Grows AA (w.alloc (Obj.cells t.cs.toArray 27)) (.pointer (some ⟨gp, 0, none⟩)) ns F (NodeR ns k p))) := Lib.hid (fun W' hb2 => (IH p g (S.next (S.next h hB) hb2) hc ((hb2.block g (At.lt hbW)).trans hbW) hgF ((hsp.part 0 (by simp)).step ((OffF.of hB).then hb2) (fun b q => Or.inl q)) (hfp p hmp) (hlp p hmp) (hzp p hmp) (by rw [hszp] at hcp; omega)).mono (fun _ _ g => g.from hb2))
  have hx1 : 1 ≤ sz k p := sz_pos (hfp p hmp)
  have HX1 := Lib.hid hx1
  have HP := Lib.hid hp
  have HSz := Lib.hid hszp
  rw [hszp] at hst hcp
  have HSt := Lib.hid hst
  have HT1 := Lib.hid hT1
  have HTf := Lib.hid htf
  have HSum := Lib.hid hsum
  have HCp := Lib.hid hcp
  have hln1 := hln
  clear hsum hfo hfp hlp hzp hcp htf hT1 hst
  clear hln hsp hblt hr hmp hszp hx1 hp
  have hln := hln1
  clear h hc hb hgF hs hf hl hz hroom hS1 hcs hk hB hbW hA
  clear IH hln1 c5 c6 c7 c8 s1 s2 s3 s4
  go_enter Tryz.func25, Tryz.ntmps25
  go_wp2_with fail
  refine wp_region_noPanic ?_
  refine wp_region_held_drew (S := (fun w' => THere t gp g w.heap.size w' ∧ w'.rangeAt b off p.cs)) (by kernel_rfl) (by exact ⟨hT, hR0⟩) (fun hHeld => ?_)
  refine wpAnyH_take (i := 0) (oi := ⟨some 75, _, _, _, _, _⟩) (v := ?_) rfl (by kernel_rfl) (by kernel_rfl) (by kernel_rfl) (fun _ _ _ h => h) (Or.inl ⟨by rfl, ?_⟩) (by exact hHeld) ?_
  rotate_left
  · (intro w hSw; (try dsimp only at hSw); go_simp; try (with_reducible rfl))
  simp only [Act.put, List.setIfInBounds_toArray, List.set_cons_zero, List.set_cons_succ]
  refine wpAnyH_take (i := 1) (oi := ⟨some 76, _, _, _, _, _⟩) (v := ?_) rfl (by kernel_rfl) (by kernel_rfl) (by kernel_rfl) (fun _ _ _ h => h) (Or.inl ⟨by rfl, ?_⟩) (by exact hHeld) ?_
  rotate_left
  · (intro w hSw; (try dsimp only at hSw); go_simp; try (with_reducible rfl))
  simp only [Act.put, List.setIfInBounds_toArray, List.set_cons_zero, List.set_cons_succ]
  refine wpAnyH_take (i := 2) (oi := ⟨some 77, _, _, _, _, _⟩) (v := ?_) rfl (by kernel_rfl) (by kernel_rfl) (by kernel_rfl) (fun _ _ _ h => h) (Or.inl ⟨by rfl, ?_⟩) (by exact hHeld) ?_
  rotate_left
  · (intro w hSw; (try dsimp only at hSw); go_simp; try (with_reducible rfl))
  simp only [Act.put, List.setIfInBounds_toArray, List.set_cons_zero, List.set_cons_succ]
  refine wpAnyH_take (i := 3) (oi := ⟨some 78, _, _, _, _, _⟩) (v := ?_) rfl (by kernel_rfl) (by kernel_rfl) (by kernel_rfl) (fun _ _ _ h => h) (Or.inl ⟨by rfl, ?_⟩) (by exact hHeld) ?_
  rotate_left
  · (intro w hSw; (try dsimp only at hSw); obtain ⟨⟨q0, q1, q2, q3, q4, q5, q6, q7⟩, q8⟩ := hSw; rw [ha, hln] at q5; go_simp; try (with_reducible rfl))
  simp only [Act.put, List.setIfInBounds_toArray, List.set_cons_zero, List.set_cons_succ]
  refine wpAnyH_take (i := 4) (oi := ⟨some 79, _, _, _, _, _⟩) (v := ?_) rfl (by kernel_rfl) (by kernel_rfl) (by kernel_rfl) (fun _ _ _ h => h) (Or.inl ⟨by rfl, ?_⟩) (by exact hHeld) ?_
  rotate_left
  · (intro w hSw; (try dsimp only at hSw); go_simp; try (with_reducible rfl))
  simp only [Act.put, List.setIfInBounds_toArray, List.set_cons_zero, List.set_cons_succ]
  refine wpAnyH_take (i := 5) (oi := ⟨some 80, _, _, _, _, _⟩) (v := _) rfl (by kernel_rfl) (by kernel_rfl) (by kernel_rfl) (fun _ _ _ h => h) (yieldsIf_load_mid (by rfl) 27 _ rfl b off rfl p.cs _ (fun _ h => h.2) Tryz.underlying27 rfl (by rw [Tr.cs_length]; kernel_rfl)) (by exact hHeld) ?_
  simp only [Act.put, List.setIfInBounds_toArray, List.set_cons_zero, List.set_cons_succ]
  refine wpAnyH_take (i := 7) (oi := ⟨some 82, _, _, _, _, _⟩) (v := ?_) rfl (by kernel_rfl) (by kernel_rfl) (by kernel_rfl) (fun _ _ _ h => h) (Or.inl ⟨by rfl, ?_⟩) (by exact hHeld) ?_
  rotate_left
  · (intro w hSw; (try dsimp only at hSw); go_simp; try (with_reducible rfl))
  simp only [Act.put, List.setIfInBounds_toArray, List.set_cons_zero, List.set_cons_succ]
  refine wpAnyH_take (i := 8) (oi := ⟨some 83, _, _, _, _, _⟩) (v := ?_) rfl (by kernel_rfl) (by kernel_rfl) (by kernel_rfl) (fun _ _ _ h => h) (Or.inl ⟨by rfl, ?_⟩) (by exact hHeld) ?_
  rotate_left
  · (intro w hSw; (try dsimp only at hSw); obtain ⟨⟨q0, q1, q2, q3, q4, q5, q6, q7⟩, q8⟩ := hSw; rw [ha, hln] at q5; go_simp; try (with_reducible rfl))
  simp only [Act.put, List.setIfInBounds_toArray, List.set_cons_zero, List.set_cons_succ]
  refine wpAnyH_take (i := 9) (oi := ⟨some 84, _, _, _, _, _⟩) (v := ?_) rfl (by kernel_rfl) (by kernel_rfl) (by kernel_rfl) (fun _ _ _ h => h) (Or.inl ⟨by rfl, ?_⟩) (by exact hHeld) ?_
  rotate_left
  · (intro w hSw; (try dsimp only at hSw); go_simp; try (with_reducible rfl))
  simp only [Act.put, List.setIfInBounds_toArray, List.set_cons_zero, List.set_cons_succ]
  refine wpAnyH_take (i := 10) (oi := ⟨some 85, _, _, _, _, _⟩) (v := ?_) rfl (by kernel_rfl) (by kernel_rfl) (by kernel_rfl) (fun _ _ _ h => h) (Or.inl ⟨by rfl, ?_⟩) (by exact hHeld) ?_
  rotate_left
  · (intro w hSw; (try dsimp only at hSw); obtain ⟨⟨q0, q1, q2, q3, q4, q5, q6, q7⟩, q8⟩ := hSw; rw [ha, hln] at q5; go_simp; try (with_reducible rfl))
  simp only [Act.put, List.setIfInBounds_toArray, List.set_cons_zero, List.set_cons_succ]
  refine wpAnyH_ready (rs := [6]) (by kernel_rfl) (by simp) ?_
  refine AllReadyH.cons (o := ⟨some 81, _, _, _, _, _⟩) rfl (fun K hK => ?_) AllReadyH.nil
  go_simp
  ((with_reducible refine (HNo.out _ (Below.refl _ _).drew).mono ?_))
  rintro e w2 ⟨x, more, F', rfl, n3, n4, n5, n6, n7, n8⟩
  have hT : THere t gp g w.heap.size w2 := HT.out _ n5
  have hR0 := HRg.out _ n5
  have HJ := Lib.hid (HTi g (sz k p) x t.lo t.hi n3 n6 ((show BAt _ g (.pointer (some ⟨gp, 0, none⟩)) from HBW.out).off HgF.out n5) (fun z => by rcases n4 _ z with z | z; exact HgF.out z; have := At.lt HBW.out; omega) n7 n8.1 n8.2.1 HX1.out HTf.out (by have h1 := HSt.out; have h2 := HSum.out.2; omega) (by rw [List.length_append]; have h1 := HRoom.out; have h2 := HCp.out; have h3 := n8.2.2; omega))
  have HW1 := Lib.hid n4
  have HW2 := Lib.hid n5
  have HW3 := Lib.hid n6
  have HW4 := Lib.hid n7
  have HW5 := Lib.hid n8
  clear n3 n4 n5 n6 n7 n8
  dsimp only
  refine hK.out _ _ ?_ (fun hHeld => ?_)
  · exact ⟨hT, hR0⟩
  clear hK K
  try simp only [Act.put, List.setIfInBounds_toArray, List.set_cons_zero, List.set_cons_succ]
  refine wpAnyH_ready (rs := [11]) (by kernel_rfl) (by simp) ?_
  refine AllReadyH.cons (o := ⟨some 86, _, _, _, _, _⟩) rfl (fun K hK => ?_) AllReadyH.nil
  go_simp
  ((with_reducible refine HJ.out.mono ?_))
  rintro e w3 ⟨r, more2, F2, rfl, g1, g2, g3, g4, g5, g6⟩
  have HG : Hid (Grows AA w (.pointer (some ⟨gp, 0, none⟩)) ns F (NodeR ns (k + 1) t) (.returned (.int .i64 r)) w3) := Lib.hid (Grows.from (w1 := (w.alloc (Obj.cells t.cs.toArray 27))) (by
    refine ⟨r, more ++ more2, F2, rfl, by rw [← List.append_assoc]; exact g1, fun b z => ?_, HW2.out.off g3 HW1.out, by rw [← List.append_assoc]; exact g4, by rw [← List.append_assoc]; exact g5, ?_⟩
    · rcases g2 b z with z | z
      · exact HW1.out b z
      · exact Or.inr (Nat.le_trans HW2.out.size z)
    · have e : (fun l => spansS l (k + 1) t) = (fun l => timesT (spansS l k p) (l.length + 1) t.lo.toNat t.hi) := by funext l; show (if _ then _ else _) = _; simp [HK.out, HP.out]
      unfold NodeR
      rw [e, ← List.append_assoc, HSt.out]
      refine ⟨g6.1, g6.2.1, ?_⟩
      rw [List.length_append]
      have h1 := cst_times (k := k) HX1.out HT1.out
      have h2 := HW5.out.2.2
      have h3 := g6.2.2
      omega) HB.out)
  have hT : THere t gp g w.heap.size w3 := HT.out _ (HW2.out.off g3 HW1.out)
  have hR0 := HRg.out _ (HW2.out.off g3 HW1.out)
  clear g1 g2 g3 g4 g5 g6
  dsimp only
  refine hK.out _ _ ?_ (fun hHeld => ?_)
  · exact ⟨hT, hR0⟩
  clear hK K
  try simp only [Act.put, List.setIfInBounds_toArray, List.set_cons_zero, List.set_cons_succ]
  refine wpAnyH_take (i := 12) (oi := ⟨some 4, _, _, _, _, _⟩) (v := ?_) rfl (by kernel_rfl) (by kernel_rfl) (by kernel_rfl) (fun _ _ _ h => h) (Or.inl ⟨by rfl, ?_⟩) (by exact hHeld) ?_
  rotate_left
  · (intro w hSw; (try dsimp only at hSw); go_simp; try (with_reducible rfl))
  simp only [Act.put, List.setIfInBounds_toArray, List.set_cons_zero, List.set_cons_succ]
  refine wpAnyH_done (by kernel_rfl) ?_ _
  refine NoPanic.normal ?_
  go_wp2_with fail
  go_ret
  exact HG.out
end

end Go.Proofs.YtcghclikkeajfaaGreat

/- norm's builder: node, whole, by what times does. -/
namespace Go.Proofs.YtcghclikkeajfaaGreat
open Go.RowKit Go.Shelf
set_option linter.unusedSimpArgs false
set_option linter.unusedVariables false

section
variable {AA : World → Value → List Nd → (Nat → Prop) → Prop}
theorem bNode (S : ArenaMap AA) (HTi : TimesIs AA) : ∀ k, NodeIs AA k
  | 0 => fun t w a ns F g h hc hb hgF hs hf => by cases hf
  | k + 1 => fun t w a ns F g h hc hb hgF hs hf hl hz hroom => by
    have IH := @bNode S @HTi k
    have hfo : ownF t = true := by
      have : (ownF t && t.parts.all (formedS k)) = true := hf
      rw [Bool.and_eq_true] at this
      exact this.1
    have hkd : 0 ≤ t.kind ∧ t.kind ≤ 11 := by
      unfold ownF at hfo
      exact (of_decide_eq_true hfo).1
    have h8 : ¬ 8 ≤ t.kind := fun q => by rw [lookB_kind q] at hl; cases hl
    have hks : t.kind = 0 ∨ t.kind = 1 ∨ t.kind = 2 ∨ t.kind = 3 ∨ t.kind = 4 ∨ t.kind = 5 ∨ t.kind = 6 ∨ t.kind = 7 := by omega
    rcases hks with e | e | e | e | e | e | e | e
    · exact bNode0 S k t g e h hc hb hgF hs hf hl hz hroom
    · exact bNode1 S k t g e h hc hb hgF hs hf hl hz hroom
    · exact bNode2 S k t g e h hc hb hgF hs hf hl hz hroom
    · exact bNode3 S k @IH t g e h hc hb hgF hs hf hl hz hroom
    · exact bNode4 S k @IH t g e h hc hb hgF hs hf hl hz hroom
    · exact bNode5 S k @IH t g e h hc hb hgF hs hf hl hz hroom
    · exact bNode6 S k @IH t g e h hc hb hgF hs hf hl hz hroom
    · exact bNode7 S k @IH @HTi t g e h hc hb hgF hs hf hl hz hroom
end

end Go.Proofs.YtcghclikkeajfaaGreat
