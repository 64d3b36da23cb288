/- package formula: slices.CompactFunc of parts. -/
import Derived.Test.YtehokjaojanieaaFoH
import Derived.Lib.SliceRun
namespace Go.Proofs.Ytehokjaojanieaa
open Go.RowKit
set_option linter.unusedVariables false
set_option linter.unusedSimpArgs false

set_option maxRecDepth 100000 in
set_option maxHeartbeats 4000000 in
/-- The closure of equality. -/
theorem fLeast2 (x y : Pt) (R R' : Nat → Prop) (w : World) (hx : PtOk w R x) (hy : PtOk w R' y) :
    Calls Try.prog 48 #[.agg #[x.v, .int .u64 x.m], .agg #[y.v, .int .u64 y.m]] w fun e w' => e = .returned (.bool (x.l == y.l)) ∧ ∃ q os, w' = Sort.grow (w.drewN q) os := by
  have HP := Lib.hid hx
  have HQ := Lib.hid hy
  obtain ⟨Ap, cp, hv, _⟩ := hx.1
  obtain ⟨Aq, cq, hv', _⟩ := hy.1
  obtain ⟨pv, hpv⟩ : ∃ pv, x.v = pv := ⟨_, rfl⟩
  obtain ⟨qv, hqv⟩ : ∃ qv, y.v = qv := ⟨_, rfl⟩
  rw [hpv] at hv ⊢
  rw [hqv] at hv' ⊢
  subst hv hv'
  have HPv := Lib.hid hpv
  have HQv := Lib.hid hqv
  clear hx hy hpv hqv
  go_enter Try.func48, Try.ntmps48
  have hB0 : Below w.heap.size w ((w.alloc (.cells #[.slice Ap x.l.length cp, .int .u64 x.m] 50)).alloc (.cells #[.slice Aq y.l.length cq, .int .u64 y.m] 50)) := ((Below.refl _ _).alloc (Nat.le_refl _) _).alloc (by simp) _
  go_wp2_with fail
  have i1 : IntsAt ((w.alloc (.cells #[.slice Ap x.l.length cp, .int .u64 x.m] 50)).alloc (.cells #[.slice Aq y.l.length cq, .int .u64 y.m] 50)) (.slice Ap x.l.length cp) x.l := by have := HP.out.ints.next hB0; rwa [HPv.out] at this
  have i2 : IntsAt ((w.alloc (.cells #[.slice Ap x.l.length cp, .int .u64 x.m] 50)).alloc (.cells #[.slice Aq y.l.length cq, .int .u64 y.m] 50)) (.slice Aq y.l.length cq) y.l := by have := HQ.out.ints.next hB0; rwa [HQv.out] at this
  refine (fEqual x.l y.l Ap Aq _ cp _ cq _ i1 i2).mono ?_
  rintro e w3 ⟨rfl, q, rfl⟩
  go_wp2_with fail
  go_ret
  refine ⟨rfl, q, #[.cells #[.slice Ap x.l.length cp, .int .u64 x.m] 50, .cells #[.slice Aq y.l.length cq, .int .u64 y.m] 50], ?_⟩
  rw [Sort.alloc_eq_grow, Sort.alloc_eq_grow, Sort.grow_grow]; rfl

/-- What the second loop keeps: m places have been looked at, k are kept. -/
structure CInv (d : Array Pt) (m k : Nat) (dk : Array Pt) : Prop where
  size : dk.size = d.size
  len : (compB (·.l) d m).length = k
  lt : k < m
  low : ∀ j, j < k → (compB (·.l) d m)[j]? = some dk[j]!
  high : ∀ j, k ≤ j → dk[j]! = d[j]!
theorem keepsB_pos {d : Array Pt} {m : Nat} (h : d[m]!.l ≠ d[m - 1]!.l) : keepsB (·.l) d m = true := by simp [keepsB, h]
theorem keepsB_neg {d : Array Pt} {m : Nat} (hm : 0 < m) (h : d[m]!.l = d[m - 1]!.l) : keepsB (·.l) d m = false := by
  have : m ≠ 0 := by omega
  simp [keepsB, h, this]
theorem keepsB_one (d : Array Pt) : ∀ j, j < 1 → keepsB (·.l) d j = true := by
  intro j hj
  have : j = 0 := by omega
  subst this
  simp [keepsB]
theorem CInv.start {d : Array Pt} {k0 : Nat} (hall : ∀ j, j < k0 → keepsB (·.l) d j = true) (hdup : keepsB (·.l) d k0 = false) : CInv d (k0 + 1) k0 d where
  size := rfl
  len := by rw [compB_succ, hdup, compB_all d k0 hall]; simp
  lt := Nat.lt_succ_self _
  low := fun j hj => by rw [compB_succ, hdup, compB_all d k0 hall]; simp [hj]
  high := fun _ _ => rfl
theorem CInv.keep {d dk : Array Pt} {m k : Nat} (h : CInv d m k dk) (hm : m < d.size) (hk : keepsB (·.l) d m = true) : CInv d (m + 1) (k + 1) (dk.setIfInBounds k d[m]!) where
  size := by simp [h.size]
  len := by rw [compB_succ, hk]; simp [h.len]
  lt := by have := h.lt; omega
  low := fun j hj => by
    rw [compB_succ, hk, if_pos rfl]
    by_cases e : j = k
    · subst e
      rw [List.getElem?_append_right (by rw [h.len]; exact Nat.le_refl _), h.len, Nat.sub_self, Sort.getElem!_set_same dk j _ (by have := h.lt; have := h.size; omega)]
      rfl
    · rw [List.getElem?_append_left (by rw [h.len]; omega), h.low j (by omega), Sort.getElem!_set_other dk k j _ e]
  high := fun j hj => by rw [Sort.getElem!_set_other dk k j _ (by omega), h.high j (by omega)]
theorem CInv.skip {d dk : Array Pt} {m k : Nat} (h : CInv d m k dk) (hk : keepsB (·.l) d m = false) : CInv d (m + 1) k dk where
  size := h.size
  len := by rw [compB_succ, hk]; simpa using h.len
  lt := by have := h.lt; omega
  low := fun j hj => by rw [compB_succ, hk]; simpa using h.low j hj
  high := h.high
theorem run_clear_parts (w : World) (b o n c : Nat) (hn : 0 < n) (hc : ∀ j, j < n * 2 → (w.cell? ⟨b, o + j, none⟩).isSome = true) (hf : ∀ j, j < n * 2 → w.frozen? ⟨b, o + j, none⟩ = false) :
    ∃ vs : List Value, vs.length = n * 2 ∧ ∀ ty, (Builtin.clear_ #[44] ty #[.slice (some ⟨b, o, none⟩) n c]).run Try.prog w = .ok (.tuple #[]) (w.setCells b o vs) := by
  have hl : (Builtin.zeroCells partZero n).toList.length = n * 2 := by simp [Builtin.zeroCells, partZero]
  have h1 : ∀ v ∈ (Builtin.zeroCells partZero n).toList, v.oneCell' = true := by
    intro v hv
    unfold Builtin.zeroCells at hv
    simp only [Array.toList_map, List.mem_map] at hv
    obtain ⟨i, _, rfl⟩ := hv
    have : i % partZero.size = 0 ∨ i % partZero.size = 1 := by show i % 2 = 0 ∨ i % 2 = 1; omega
    rcases this with e | e <;> rw [e] <;> rfl
  have hst := run_storeCells_cells (P := Try.prog) b o (Builtin.zeroCells partZero n).toList 0 w (by rw [hl]; simpa using hc) (by rw [hl]; simpa using hf) h1
  simp only [Nat.add_zero] at hst
  refine ⟨_, hl, fun ty => ?_⟩
  obtain ⟨m, rfl⟩ : ∃ m, n = m + 1 := ⟨n - 1, by omega⟩
  have hz : (Value.agg partZero).cells = partZero := rfl
  simp [Builtin.clear_, run_underlying Try.underlying44, Try.zeroValue50]
  rw [show (Value.agg #[Value.slice none 0 0, Value.int IntKind.u64 0]).cells = partZero from rfl, hst]; rfl
theorem row_setCells {g cap : Nat} {f : Nat → Option Pt} (k : Nat) : ∀ (vs : List Value) (o : Nat) (w : World), RowF w g cap f → k * 2 ≤ o → (∀ j, k ≤ j → f j = none) → RowF (w.setCells g o vs) g cap f
  | [], _, _, h, _, _ => h
  | v :: r, o, w, h, ho, hf => by
    refine row_setCells k r (o + 1) _ ?_ (by omega) hf
    obtain ⟨cs, hA, hs, hc⟩ := h
    refine ⟨_, hA.set o v, by simp [hs], fun j x hx => ?_⟩
    have hj : j < k := by
      by_cases e : k ≤ j
      · rw [hf j e] at hx; cases hx
      · omega
    obtain ⟨a, b, c⟩ := hc j x hx
    refine ⟨a, ?_, ?_⟩
    · rw [Array.getElem?_setIfInBounds_ne (by omega)]; exact b
    · rw [Array.getElem?_setIfInBounds_ne (by omega)]; exact c

theorem grown_class {w wr : World} {row : Option Nat} (h : w.grownBy wr row) (n : Nat) (os : Array Obj) : w.grownBy (Sort.grow (wr.drewN n) os) row :=
  ⟨h.os, h.tape, h.output, Nat.le_trans h.size (by simp [Sort.grow]), fun k hk hne => by
    rw [Sort.heap_grow_old _ _ (by exact Nat.lt_of_lt_of_le hk h.size)]; exact h.block k hk hne⟩

theorem grown_both {w w1 w2 : World} {row : Option Nat} (h : w.grownBy w1 row) (h' : w1.grownBy w2 row) : w.grownBy w2 row :=
  ⟨h'.os.trans h.os, h'.tape.trans h.tape, h'.output.trans h.output, Nat.le_trans h.size h'.size, fun k hk hne => (h'.block k (Nat.lt_of_lt_of_le hk h.size) hne).trans (h.block k hk hne)⟩

theorem RowF.some {w : World} {g cap : Nat} {f : Nat → Option Pt} (h : RowF w g cap f) {i : Nat} (hi : i < cap * 2) : (w.cell? ⟨g, i, none⟩).isSome = true := by
  obtain ⟨cs, hA, hs, _⟩ := h
  rw [hA.cell i, Array.getElem?_eq_getElem (by omega)]; rfl

set_option maxRecDepth 100000 in
set_option maxHeartbeats 8000000 in
theorem fCompactParts (d : Array Pt) (w : World) (g cap c : Nat) (hr : RowF w g cap (fun j => d[j]?)) (hx : ∀ j, j < d.size → PtOk w (fun b => b = g) d[j]!) (hn : d.size ≤ cap) (hl : d.size ≤ 4000000) (hc : d.size ≤ c) (hc2 : c ≤ 9223372036854775807) :
    Calls Try.prog 47 #[.slice (some ⟨g, 0, none⟩) d.size c, .func (.func 48) #[] #[]] w fun e w' =>
      e = .returned (.slice (some ⟨g, 0, none⟩) (compB (·.l) d d.size).length c) ∧ RowF w' g cap (fun j => (compB (·.l) d d.size)[j]?) ∧ w.grownBy w' (some g) := by
  have HX := Lib.hid hx
  have HRW := Lib.hid hr
  have mixed := lib_laysSortParts.mixed
  have eg : ∀ args w, (callFunc 48 args).run Try.prog w = .ok (.enter 48 args) w := enters_of Try.func48 (by kernel_rfl) rfl
  have hcls : Hid (∀ (wr : World), w.grownBy wr (some g) → ∀ x y, PtOk w (fun b => b = g) x → PtOk w (fun b => b = g) y → ∀ n os, Calls Try.prog 48 #[.agg #[x.v, .int .u64 x.m], .agg #[y.v, .int .u64 y.m]] (Sort.grow (wr.drewN n) os) fun e w' => e = .returned (.bool (x.l == y.l)) ∧ ∃ q os', w' = Sort.grow ((Sort.grow (wr.drewN n) os).drewN q) os') := Lib.hid (by
    intro wr hg x y h1 h2 n os
    have hg2 : wr.grownBy (Sort.grow (wr.drewN n) os) none := ⟨rfl, rfl, rfl, by simp [Sort.grow], fun k hk _ => by rw [Sort.heap_grow_old _ _ (by exact hk)]; rfl⟩
    have hR : ∀ k, (some g : Option Nat) = some k → k = g := fun k e => by injection e with e; exact e.symm
    exact fLeast2 x y _ _ _ ((h1.grown hg hR).grown hg2 (fun k e => by cases e)) ((h2.grown hg hR).grown hg2 (fun k e => by cases e)))
  have hcell : Hid (∀ (wr : World) (cap' : Nat) (f : Nat → Option Pt) (j : Nat) (x : Pt), RowF wr g cap' f → f j = some x → ∀ n os, (Sort.grow (wr.drewN n) os).cell? ⟨g, j * 2, none⟩ = some x.v ∧ (Sort.grow (wr.drewN n) os).cell? ⟨g, j * 2 + 1, none⟩ = some (.int .u64 x.m)) := Lib.hid (by
    intro wr cap' f j x h e n os
    obtain ⟨a, b⟩ := h.cell e
    exact ⟨cell_grown h.lt a n os, cell_grown h.lt b n os⟩)
  have hsame : Hid ((∀ j, j < d.size → keepsB (·.l) d j = true) → compB (·.l) d d.size = d.toList) := Lib.hid (fun h => by rw [compB_all d _ h, Lib.range_map_get])
  clear hx hr
  by_cases h2 : d.size < 2
  · have h2' : (d.size : Int) < 2 := by omega
    go_enter Try.func47, Try.ntmps47
    go_wp2_with fail
    go_ret
    have e1 := hsame.out (fun j hj => keepsB_one d j (by omega))
    rw [e1]
    refine ⟨by simp, ?_, ⟨rfl, rfl, rfl, Nat.le_refl _, fun _ _ _ => rfl⟩⟩
    simpa using HRW.out
  · have h2' : ¬ ((d.size : Int) < 2) := by omega
    go_enter Try.func47, Try.ntmps47
    go_wp2_with fail
    go_loopg [5] d.size (fun gg s5 wr => ∃ k : Nat, 1 ≤ k ∧ k ≤ d.size ∧ d.size - k ≤ gg ∧ s5 = .int .i64 k ∧ Hid (RowF wr g cap (fun j => d[j]?)) ∧ Hid (w.grownBy wr (some g)) ∧ Hid (∀ j, j < k → keepsB (·.l) d j = true))
    case atStart => exact ⟨1, Nat.le_refl _, by omega, by omega, rfl, HRW, Lib.hid ⟨rfl, rfl, rfl, Nat.le_refl _, fun _ _ _ => rfl⟩, Lib.hid (keepsB_one d)⟩
    case round =>
      obtain ⟨k, hk1, hk, hg, rfl, HR, HG, HK⟩ := hrel
      by_cases hlt : k < d.size
      · obtain ⟨kp, rfl⟩ : ∃ kp, k = kp + 1 := ⟨k - 1, by omega⟩
        have hwp : IntKind.i64.wrap (kp : Int) = (kp : Int) := by rw [IntKind.wrap_i64]; omega
        have z1 : (kp : Int) + 1 < (d.size : Int) := by omega
        have z2 : (kp : Int) < (d.size : Int) := by omega
        have z3 : (0 : Int) ≤ (kp : Int) + 1 := by omega
        have e0 : ((kp : Int) + 1).toNat = kp + 1 := by omega
        obtain ⟨x, hx⟩ : ∃ x, d[kp + 1]! = x := ⟨_, rfl⟩
        obtain ⟨y, hy⟩ : ∃ y, d[kp]! = y := ⟨_, rfl⟩
        have hx1 : d[kp + 1]? = some x := by rw [← hx, getElem!_pos d (kp + 1) hlt]; exact Array.getElem?_eq_getElem hlt
        have hy1 : d[kp]? = some y := by rw [← hy, getElem!_pos d kp (by omega)]; exact Array.getElem?_eq_getElem (by omega)
        have l1 := fun n os => (hcell.out wr cap _ (kp + 1) x HR.out hx1 n os).1
        have l2 := fun n os => (hcell.out wr cap _ (kp + 1) x HR.out hx1 n os).2
        have l3 := fun n os => (hcell.out wr cap _ kp y HR.out hy1 n os).1
        have l4 := fun n os => (hcell.out wr cap _ kp y HR.out hy1 n os).2
        have hcg := hcls.out wr HG.out x y (by rw [← hx]; exact HX.out _ hlt) (by rw [← hy]; exact HX.out _ (by omega))
        have XX := Lib.hid hx
        have YY := Lib.hid hy
        clear hx hy hx1 hy1
        by_cases hdup : x.l = y.l
        · have hb : (x.l == y.l) = true := by rw [hdup]; exact beq_self_eq_true _
          rw [hb] at hcg
          have hck : ¬ (c = kp + 1) := by omega
          have z4 : (kp : Int) + 1 ≤ (d.size : Int) := by omega
          have z5 : (d.size : Int) ≤ (c : Int) := by omega
          go_wp2_with fail
          go_quiet_grown (first | (go_at_fn 48; refine Calls.grown_of (hcg _ _)))
          have hR2 : Hid (RowF (Sort.grow (wr.drewN nq) osq) g cap (fun j => d[j]?)) := Lib.hid (HR.out.kept (Sort.heap_grow_old _ _ (by exact HR.out.lt)))
          have hG2 : Hid (w.grownBy (Sort.grow (wr.drewN nq) osq) (some g)) := Lib.hid (grown_class HG.out nq osq)
          clear l1 l2 l3 l4 hcg
          generalize Sort.grow (wr.drewN nq) osq = wq at hR2 hG2 ⊢
          go_wp2_with fail
          go_loopg [5, 7] d.size (fun gg s5 s7 wr => ∃ (kk k2 : Nat) (dk : Array Pt), s5 = .int .i64 kk ∧ s7 = .int .i64 k2 ∧ 1 ≤ k2 ∧ kp + 1 + k2 ≤ d.size ∧ d.size - (kp + 1 + k2) ≤ gg ∧ Hid (CInv d (kp + 1 + k2) kk dk) ∧ Hid (RowF wr g cap (fun j => dk[j]?)) ∧ Hid (w.grownBy wr (some g)))
          case atStart => exact ⟨kp + 1, 1, d, by go_num, rfl, Nat.le_refl _, by omega, by omega, Lib.hid (CInv.start HK.out (keepsB_neg (by omega) (by rw [XX.out, Nat.add_sub_cancel, YY.out]; exact hdup))), hR2, hG2⟩
          case round =>
            obtain ⟨kk, k2, dk, rfl, rfl, h1, hle, hg2, HI, HR2, HG2⟩ := hrel
            have hkk := HI.out.lt
            have hds := HI.out.size
            obtain ⟨k2p, rfl⟩ : ∃ k2p, k2 = k2p + 1 := ⟨k2 - 1, by omega⟩
            by_cases hlt2 : kp + 1 + (k2p + 1) < d.size
            · have hwp2 : IntKind.i64.wrap (k2p : Int) = (k2p : Int) := by rw [IntKind.wrap_i64]; omega
              have y1 : (k2p : Int) + 1 < ((d.size - (kp + 1) : Nat) : Int) := by omega
              have y2 : (k2p : Int) < ((d.size - (kp + 1) : Nat) : Int) := by omega
              have y3 : (0 : Int) ≤ (k2p : Int) + 1 := by omega
              have y4 : ((k2p : Int) + 1).toNat = k2p + 1 := by omega
              have y5 : (kk : Int) < (d.size : Int) := by omega
              obtain ⟨u, hu⟩ : ∃ u, d[kp + 1 + (k2p + 1)]! = u := ⟨_, rfl⟩
              obtain ⟨v, hv⟩ : ∃ v, d[kp + 1 + k2p]! = v := ⟨_, rfl⟩
              have hu1 : dk[kp + 1 + (k2p + 1)]? = some u := by rw [← hu, ← HI.out.high _ (by omega), getElem!_pos dk _ (by omega)]; exact Array.getElem?_eq_getElem (by omega)
              have hv1 : dk[kp + 1 + k2p]? = some v := by rw [← hv, ← HI.out.high _ (by omega), getElem!_pos dk _ (by omega)]; exact Array.getElem?_eq_getElem (by omega)
              have l1 := fun n os => (hcell.out wr cap _ (kp + 1 + (k2p + 1)) u HR2.out hu1 n os).1
              have l2 := fun n os => (hcell.out wr cap _ (kp + 1 + (k2p + 1)) u HR2.out hu1 n os).2
              have l3 := fun n os => (hcell.out wr cap _ (kp + 1 + k2p) v HR2.out hv1 n os).1
              have l4 := fun n os => (hcell.out wr cap _ (kp + 1 + k2p) v HR2.out hv1 n os).2
              have o1 : (kp + 1 + (k2p + 1)) * 2 = (kp + 1) * 2 + (k2p + 1) * 2 := by omega
              have o2 : (kp + 1 + k2p) * 2 = (kp + 1) * 2 + k2p * 2 := by omega
              rw [o1] at l1 l2
              rw [o2] at l3 l4
              have hcg := hcls.out wr HG2.out u v (by rw [← hu]; exact HX.out _ hlt2) (by rw [← hv]; exact HX.out _ (by omega))
              have UU := Lib.hid hu
              have VV := Lib.hid hv
              have HU1 := Lib.hid hu1
              clear hu hv hu1 hv1 o1 o2
              by_cases hdup2 : u.l = v.l
              · have hb2 : (u.l == v.l) = true := by rw [hdup2]; exact beq_self_eq_true _
                rw [hb2] at hcg
                go_wp2_with fail
                go_quiet_grown (first | (go_at_fn 48; refine Calls.grown_of (hcg _ _)))
                have hR3 : Hid (RowF (Sort.grow (wr.drewN nq) osq) g cap (fun j => dk[j]?)) := Lib.hid (HR2.out.kept (Sort.heap_grow_old _ _ (by exact HR2.out.lt)))
                have hG3 : Hid (w.grownBy (Sort.grow (wr.drewN nq) osq) (some g)) := Lib.hid (grown_class HG2.out nq osq)
                clear l1 l2 l3 l4 hcg
                generalize Sort.grow (wr.drewN nq) osq = wq2 at hR3 hG3 ⊢
                go_wp2_with fail
                go_roundg (d.size - (kp + 1 + (k2p + 1 + 1)))
                case measure => omega
                case rel => exact ⟨kk, k2p + 1 + 1, dk, rfl, by go_num, by omega, by omega, Nat.le_refl _, Lib.hid (HI.out.skip (keepsB_neg (by omega) (by rw [UU.out, show kp + 1 + (k2p + 1) - 1 = kp + 1 + k2p by omega, VV.out]; exact hdup2))), hR3, hG3⟩
              · have hb2 : (u.l == v.l) = false := beq_eq_false_iff_ne.2 hdup2
                rw [hb2] at hcg
                go_wp2_with fail
                go_quiet_grown (first | (go_at_fn 48; refine Calls.grown_of (hcg _ _)))
                have hR3 : Hid (RowF (Sort.grow (wr.drewN nq) osq) g cap (fun j => dk[j]?)) := Lib.hid (HR2.out.kept (Sort.heap_grow_old _ _ (by exact HR2.out.lt)))
                have hG3 : Hid (w.grownBy (Sort.grow (wr.drewN nq) osq) (some g)) := Lib.hid (grown_class HG2.out nq osq)
                clear l1 l2 l3 l4 hcg
                generalize Sort.grow (wr.drewN nq) osq = wq2 at hR3 hG3 ⊢
                obtain ⟨c0, c1⟩ := hR3.out.cell HU1.out
                rw [show (kp + 1 + (k2p + 1)) * 2 = (kp + 1) * 2 + (k2p + 1) * 2 by omega] at c0 c1
                obtain ⟨d0, d1, e0, e1⟩ := hR3.out.there (j := kk) (by omega)
                have f0 := hR3.out.free (kk * 2)
                have f1 := hR3.out.free (kk * 2 + 1)
                obtain ⟨Au, cu, hv5, _⟩ := (HX.out _ hlt2).1
                rw [UU.out] at hv5
                obtain ⟨uv, huv⟩ : ∃ uv, u.v = uv := ⟨_, rfl⟩
                rw [huv] at hv5 c0
                subst hv5
                have HUV := Lib.hid huv
                clear huv
                go_wp2_with fail
                go_roundg (d.size - (kp + 1 + (k2p + 1 + 1)))
                case measure => omega
                case rel =>
                  have hP := hR3.out.put (i := kk) (by omega) u
                  rw [HUV.out] at hP
                  refine ⟨kk + 1, k2p + 1 + 1, dk.setIfInBounds kk u, by go_num, by go_num, by omega, by omega, Nat.le_refl _, Lib.hid ?_, Lib.hid (hP.weaken (fun j x hx => ?_)), Lib.hid ?_⟩
                  · have := HI.out.keep hlt2 (keepsB_pos (by rw [UU.out, show kp + 1 + (k2p + 1) - 1 = kp + 1 + k2p by omega, VV.out]; exact hdup2))
                    rwa [UU.out] at this
                  · rw [Array.getElem?_setIfInBounds] at hx
                    by_cases e : kk = j
                    · subst e
                      rw [if_pos rfl]
                      rw [if_pos rfl, if_pos (by omega)] at hx
                      exact hx
                    · rw [if_neg (fun h => e h.symm)]
                      rwa [if_neg e] at hx
                  · exact grown_both hG3.out (grown2 wq2 g (kk * 2) (kk * 2 + 1) _ _)
            · have hend : kp + 1 + (k2p + 1) = d.size := by omega
              have y1 : ¬ ((k2p : Int) + 1 < ((d.size - (kp + 1) : Nat) : Int)) := by omega
              have hI := HI.out
              rw [hend] at hI
              have HI2 := Lib.hid hI
              clear hI
              have hkc : ¬ (c = kk) := by omega
              have y6 : (kk : Int) ≤ (d.size : Int) := by omega
              obtain ⟨vs, hvl, hcl⟩ : ∃ vs : List Value, vs.length = (d.size - kk) * 2 ∧ ∀ ty, (Builtin.clear_ #[44] ty #[.slice (some ⟨g, kk * 2, none⟩) (d.size - kk) (c - kk)]).run Try.prog wr = .ok (.tuple #[]) (wr.setCells g (kk * 2) vs) :=
                run_clear_parts wr g (kk * 2) (d.size - kk) (c - kk) (by omega) (fun j hj => HR2.out.some (by omega)) (fun j hj => HR2.out.free _)
              have hlen := HI2.out.len
              have HLen := Lib.hid hlen
              have y7 : kk ≤ c := by omega
              have HVl := Lib.hid hvl
              clear hlen hvl
              go_wp2_with fail
              go_ret
              refine ⟨by rw [HLen.out]; rfl, ?_, grown_both HG2.out (grown_cells wr g (kk * 2) 0 vs)⟩
              refine row_setCells kk vs (kk * 2) wr (HR2.out.weaken (fun j x hx => ?_)) (Nat.le_refl _) (fun j hj => List.getElem?_eq_none (by rw [HLen.out]; exact hj))
              have hj : j < kk := by rw [← HLen.out]; exact (List.getElem?_eq_some_iff.1 hx).1
              have h1 := HI2.out.low j hj
              rw [hx] at h1
              rw [h1, getElem!_pos dk j (by omega)]
              exact Array.getElem?_eq_getElem (by omega)
        · have hb : (x.l == y.l) = false := beq_eq_false_iff_ne.2 hdup
          rw [hb] at hcg
          go_wp2_with fail
          go_quiet_grown (first | (go_at_fn 48; refine Calls.grown_of (hcg _ _)))
          have hR2 : Hid (RowF (Sort.grow (wr.drewN nq) osq) g cap (fun j => d[j]?)) := Lib.hid (HR.out.kept (Sort.heap_grow_old _ _ (by exact HR.out.lt)))
          have hG2 : Hid (w.grownBy (Sort.grow (wr.drewN nq) osq) (some g)) := Lib.hid (grown_class HG.out nq osq)
          clear l1 l2 l3 l4 hcg
          generalize Sort.grow (wr.drewN nq) osq = wq at hR2 hG2 ⊢
          go_wp2_with fail
          go_roundg (d.size - (kp + 2))
          case measure => omega
          case rel =>
            refine ⟨kp + 1 + 1, by omega, by omega, by omega, by go_num, hR2, hG2, Lib.hid (fun j hj => ?_)⟩
            by_cases e : j = kp + 1
            · subst e
              exact keepsB_pos (by rw [XX.out, Nat.add_sub_cancel, YY.out]; exact hdup)
            · exact HK.out j (by omega)
      · obtain rfl : k = d.size := by omega
        have z1 : ¬ ((d.size : Int) < (d.size : Int)) := by omega
        go_wp2_with fail
        go_ret
        rw [hsame.out HK.out]
        refine ⟨by simp, ?_, HG.out⟩
        simpa using HR.out

end Go.Proofs.Ytehokjaojanieaa
