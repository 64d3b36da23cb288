/- Put of the arena; of a nil one. -/
import Derived.Test.YtcghclikkeajfaaArenaAdd
import Derived.Test.YtcghclikkeajfaaArenaFormed
namespace Go.Proofs.Ytcghclikkeajfaa
open Go.RowKit Go.Maps
set_option linter.unusedVariables false
set_option linter.unusedSimpArgs false

theorem look_ids {w : World} {m : Option Nat} {ns : List Nd} (h : (m = none ∧ ns = []) ∨ ∃ k, m = some k ∧ IdsAt w k ns) {x : Nd} (hx : NdFit x) :
    (Instr.lookup 51 (.map m) (.agg x.cs.toArray) true).run Try.prog w = .ok (.tuple #[.int .i64 (if findN ns x < ns.length then (findN ns x : Int) else 0), .bool (decide (findN ns x < ns.length))]) w := by
  rcases h with ⟨rfl, rfl⟩ | ⟨k, rfl, hk⟩
  · exact Maps.look_nil true lawNode Try.underlying51 (zeroIntK w) (keyNode x hx)
  · exact hk.look hx

set_option maxRecDepth 100000 in
set_option maxHeartbeats 16000000 in
theorem aPutT {w : World} {a v : Value} {ns : List Nd} {F : Nat → Prop} {g : Nat} {m : Option Nat} (x : Nd) (h : AT w a ns F g m v) (hx : NdFit x) (hn : ns.length < 20000) :
    Calls Try.prog 36 #[a, .agg x.cs.toArray] w fun e w' => ∃ F', e = .returned (.tuple #[.int .i64 (putId ns x), .int .i64 (putE ns x)]) ∧ AG w' a (putS ns x) F' g m ∧ (∀ b, F' b → F b ∨ w.heap.size ≤ b) ∧ OffF F w w' := by
  obtain rfl := h.ptr
  obtain ⟨A, c, rfl⟩ := h.row.len
  have hA : At (w.alloc (Obj.cells x.cs.toArray 56)) w.heap.size 56 x.cs.toArray := At.new _ _ _
  have hB : Below w.heap.size w (w.alloc (Obj.cells x.cs.toArray 56)) := (Below.refl _ _).alloc (Nat.le_refl _) _
  have HB := Lib.hid hB
  have HA := Lib.hid hA
  have HX := Lib.hid hx
  have HT := Lib.hid (h.next hB)
  have HR : Hid (Calls Try.prog 52 #[.pointer (some ⟨g, 0, none⟩), .agg #[.int .i64 x.kind, .int .u64 x.set.w0, .int .u64 x.set.w1, .int .u64 x.set.w2, .int .u64 x.set.w3, .int .i64 x.a, .int .i64 x.b, .bool x.neg]] (w.alloc (Obj.cells x.cs.toArray 56)) fun e w' => e = .returned (.bool (x.right ns.length)) ∧ Below (w.alloc (Obj.cells x.cs.toArray 56)).heap.size (w.alloc (Obj.cells x.cs.toArray 56)) w') := Lib.hid (aFormed x ⟨g, m, _, HT.out⟩)
  obtain ⟨z0, z1, z2, z3, z4, z5, z6, z7⟩ := Nd.cells hA
  clear h hx hA hB
  go_enter Try.func36, Try.ntmps36
  go_wp2_with fail
  refine HR.out.mono ?_
  rintro e w3 ⟨rfl, hb3⟩
  clear z0 z1 z2 z3 z4 z5 z6 z7
  have HA3 := Lib.hid (HA.out.step hb3 rfl)
  have HB3 := Lib.hid (HB.out.trans (hb3.mono HB.out.size))
  have HT3 := Lib.hid (HT.out.next hb3)
  clear hb3
  obtain ⟨z0, z1, z2, z3, z4, z5, z6, z7⟩ := Nd.cells HA3.out
  have c0 := HT3.out.box.cell 0
  have c1 := HT3.out.box.cell 1
  cases hrt : x.right ns.length
  · have HPS : Hid (putS ns x = ns) := Lib.hid (by unfold putS; rw [hrt]; rfl)
    have HPI : Hid (putId ns x = 0) := Lib.hid (by unfold putId; rw [hrt]; rfl)
    have HPE : Hid (putE ns x = 1) := Lib.hid (by unfold putE; rw [hrt]; rfl)
    clear hrt
    go_wp2_with fail
    go_ret2
    refine ⟨F, by rw [HPI.out, HPE.out]; rfl, ?_, fun b hb => Or.inl hb, OffF.of HB3.out⟩
    rw [HPS.out]
    exact ⟨m, _, HT3.out, fun _ e => e⟩
  · have HRt := Lib.hid hrt
    have HPE : Hid (putE ns x = 0) := Lib.hid (by unfold putE; rw [hrt]; rfl)
    have HPI : Hid (putId ns x = (findN ns x : Int)) := Lib.hid (by unfold putId; rw [hrt]; rfl)
    clear hrt
    have hlk : ∀ q, (Instr.lookup 51 (.map m) (.agg #[.int .i64 x.kind, .int .u64 x.set.w0, .int .u64 x.set.w1, .int .u64 x.set.w2, .int .u64 x.set.w3, .int .i64 x.a, .int .i64 x.b, .bool x.neg]) true).run Try.prog (w3.drewN q) = .ok (.tuple #[.int .i64 (if findN ns x < ns.length then (findN ns x : Int) else 0), .bool (decide (findN ns x < ns.length))]) (w3.drewN q) := fun q => look_ids (w := w3.drewN q) (by rcases HT3.out.ids with e | ⟨k, e, hk⟩; exact Or.inl e; exact Or.inr ⟨k, e, hk.kept rfl⟩) HX.out
    by_cases hlt : findN ns x < ns.length
    · rw [decide_eq_true hlt, if_pos hlt] at hlk
      have HPS : Hid (putS ns x = ns) := Lib.hid (by unfold putS; rw [if_pos HRt.out, if_pos hlt])
      clear hlt
      go_wp2_with fail
      go_quiet (fail)
      go_wp2_with fail
      go_ret2
      refine ⟨F, by rw [HPI.out, HPE.out]; rfl, ?_, fun b hb => Or.inl hb, OffF.of (below_drewN' HB3.out _)⟩
      rw [HPS.out]
      exact ⟨m, _, HT3.out.keep (fun _ _ => rfl), fun _ e => e⟩
    · rw [decide_eq_false hlt, if_neg hlt] at hlk
      have hfe : findN ns x = ns.length := by have := findN_le ns x; omega
      have HPS : Hid (putS ns x = ns ++ [x]) := Lib.hid (by unfold putS; rw [if_pos HRt.out, if_neg hlt])
      have HFe := Lib.hid hfe
      have HLt := Lib.hid hlt
      have hnm : ¬ (20000 : Int) ≤ (ns.length : Int) := by omega
      have hnm2 : decide ((20000 : Int) ≤ (ns.length : Int)) = false := decide_eq_false hnm
      have HAd : Hid (∀ q, Calls Try.prog 53 #[.pointer (some ⟨g, 0, none⟩), .agg #[.int .i64 x.kind, .int .u64 x.set.w0, .int .u64 x.set.w1, .int .u64 x.set.w2, .int .u64 x.set.w3, .int .i64 x.a, .int .i64 x.b, .bool x.neg]] (w3.drewN q) fun e w' => ∃ F', e = .returned (.int .i64 ns.length) ∧ AG w' (.pointer (some ⟨g, 0, none⟩)) (ns ++ [x]) F' g m ∧ (∀ b, F' b → F b ∨ (w3.drewN q).heap.size ≤ b) ∧ OffF F (w3.drewN q) w') := Lib.hid (fun q => aAddT x (HT3.out.keep (fun _ _ => rfl) : AT (w3.drewN q) _ _ _ _ _ _) HX.out (by omega) HRt.out HLt.out)
      clear hlt hfe
      go_wp2_with fail
      go_quiet (fail)
      go_wp2_with fail
      refine (HAd.out _).mono ?_
      rintro e w5 ⟨F', rfl, hA5, hF5, ho5⟩
      go_wp2_with fail
      go_ret2
      refine ⟨F', by rw [HPI.out, HPE.out, HFe.out]; rfl, by rw [HPS.out]; exact hA5, fun b q => ?_, ?_⟩
      · rcases hF5 b q with q | q
        · exact Or.inl q
        · exact Or.inr (Nat.le_trans HB3.out.size q)
      · exact (OffF.of (below_drewN' HB3.out _)).off ho5 (fun b q => Or.inl q)

set_option maxRecDepth 100000 in
set_option maxHeartbeats 16000000 in
theorem aPutNo {w : World} {a v : Value} {ns : List Nd} {F : Nat → Prop} {g : Nat} {m : Option Nat} (x : Nd) (h : AT w a ns F g m v) (hx : NdFit x) (hrt : x.right ns.length = false) :
    Calls Try.prog 36 #[a, .agg x.cs.toArray] w fun e w' => e = .returned (.tuple #[.int .i64 0, .int .i64 1]) ∧ Below w.heap.size w w' := by
  obtain rfl := h.ptr
  obtain ⟨A, c, rfl⟩ := h.row.len
  have hA : At (w.alloc (Obj.cells x.cs.toArray 56)) w.heap.size 56 x.cs.toArray := At.new _ _ _
  have hB : Below w.heap.size w (w.alloc (Obj.cells x.cs.toArray 56)) := (Below.refl _ _).alloc (Nat.le_refl _) _
  have HB := Lib.hid hB
  have HA := Lib.hid hA
  have HX := Lib.hid hx
  have HT := Lib.hid (h.next hB)
  have HR : Hid (Calls Try.prog 52 #[.pointer (some ⟨g, 0, none⟩), .agg #[.int .i64 x.kind, .int .u64 x.set.w0, .int .u64 x.set.w1, .int .u64 x.set.w2, .int .u64 x.set.w3, .int .i64 x.a, .int .i64 x.b, .bool x.neg]] (w.alloc (Obj.cells x.cs.toArray 56)) fun e w' => e = .returned (.bool (x.right ns.length)) ∧ Below (w.alloc (Obj.cells x.cs.toArray 56)).heap.size (w.alloc (Obj.cells x.cs.toArray 56)) w') := Lib.hid (aFormed x ⟨g, m, _, HT.out⟩)
  obtain ⟨z0, z1, z2, z3, z4, z5, z6, z7⟩ := Nd.cells hA
  clear h hx hA hB
  go_enter Try.func36, Try.ntmps36
  go_wp2_with fail
  refine HR.out.mono ?_
  rintro e w3 ⟨rfl, hb3⟩
  clear z0 z1 z2 z3 z4 z5 z6 z7
  have HA3 := Lib.hid (HA.out.step hb3 rfl)
  have HB3 := Lib.hid (HB.out.trans (hb3.mono HB.out.size))
  have HT3 := Lib.hid (HT.out.next hb3)
  clear hb3
  obtain ⟨z0, z1, z2, z3, z4, z5, z6, z7⟩ := Nd.cells HA3.out
  have c0 := HT3.out.box.cell 0
  have c1 := HT3.out.box.cell 1
  rw [hrt]
  clear hrt
  go_wp2_with fail
  go_ret2
  exact ⟨rfl, HB3.out⟩

theorem aPut {w : World} {a : Value} {ns : List Nd} {F : Nat → Prop} (x : Nd) (h : AA w a ns F) (hx : NdFit x) (hn : ns.length < 20000) :
    Calls Try.prog 36 #[a, .agg x.cs.toArray] w fun e w' => ∃ F', e = .returned (.tuple #[.int .i64 (putId ns x), .int .i64 (putE ns x)]) ∧ AA w' a (putS ns x) F' ∧ (∀ b, F' b → F b ∨ w.heap.size ≤ b) ∧ OffF F w w' := by
  obtain ⟨g, m, v, h⟩ := h
  exact (aPutT x h hx hn).mono (fun _ _ ⟨F', h1, h2, h3⟩ => ⟨F', h1, h2.aa, h3⟩)

set_option maxRecDepth 100000 in
set_option maxHeartbeats 4000000 in
theorem nilPut (w : World) (x : Nd) : Calls Try.prog 36 #[.pointer none, .agg x.cs.toArray] w fun e w' => e = .returned (.tuple #[.int .i64 0, .int .i64 1]) ∧ Below w.heap.size w w' := by
  have HB : Hid (Below w.heap.size w (w.alloc (Obj.cells x.cs.toArray 56))) := Lib.hid ((Below.refl _ _).alloc (Nat.le_refl _) _)
  go_enter Try.func36, Try.ntmps36
  go_wp2_with fail
  go_ret2
  exact ⟨rfl, HB.out⟩

end Go.Proofs.Ytcghclikkeajfaa
