/- The relation of a drawn statement that makes four sets of two: which of its operations have come up, and what they have left. -/
import Derived.Test.YtdcmalfjciekoaaWords
namespace Go.Proofs.Ytdcmalfjciekoaa
open Go.RowKit

def upd (d : Nat → Bool) (k : Nat) : Nat → Bool := fun j => decide (j = k) || d j
theorem upd_ne {d : Nat → Bool} {i k : Nat} (h : i ≠ k) : upd d k i = d i := by simp [upd, h]
theorem upd_same (d : Nat → Bool) (k : Nat) : upd d k k = true := by simp [upd]
def Vs (d : Nat → Bool) (i : Nat) (v : Value) (s : St) : Prop := d i = true → v = sv s
theorem Vs.keep {d : Nat → Bool} {i k : Nat} {v : Value} {s : St} (h : Vs d i v s) (hk : i ≠ k) : Vs (upd d k) i v s := fun hi => h (by rwa [upd_ne hk] at hi)
theorem Vs.new (d : Nat → Bool) (i : Nat) (s : St) : Vs d i (sv s) s := fun _ => rfl
/-- From the time that operation i has come up v is a new block's address; the set in it is none till operation j has come up, then z. -/
def Cb (w : World) (T : TypeId) (b : Nat) (d : Nat → Bool) (i j : Nat) (v : Value) (z : St) : Prop := d i = true → ∃ g, v = .pointer (some ⟨g, 0, none⟩) ∧ b ≤ g ∧ SetAt w g T (bif d j then z else ⟨0, 0, 0, 0⟩)
theorem Cb.keep {w w' : World} {T : TypeId} {b : Nat} {d : Nat → Bool} {i j k : Nat} {v : Value} {z : St} (h : Cb w T b d i j v z) (hi : i ≠ k) (hj : j ≠ k) (hw : ∀ g s, SetAt w g T s → SetAt w' g T s) : Cb w' T b (upd d k) i j v z := by
  intro h1
  rw [upd_ne hi] at h1
  obtain ⟨g, e, hb, hs⟩ := h h1
  exact ⟨g, e, hb, by rw [upd_ne hj]; exact hw _ _ hs⟩
theorem Cb.new {w : World} {T : TypeId} {b : Nat} {d : Nat → Bool} {i j : Nat} {z : St} (hb : b ≤ w.heap.size) (hij : j ≠ i) (hj : d j = false) :
    Cb (w.alloc (.cells #[.int .u64 0, .int .u64 0, .int .u64 0, .int .u64 0] T)) T b (upd d i) i j (.pointer (some ⟨w.heap.size, 0, none⟩)) z := by
  intro _
  refine ⟨_, rfl, hb, ?_⟩
  rw [upd_ne hij, hj]
  exact SetAt.new w T ⟨0, 0, 0, 0⟩
def Imp (d : Nat → Bool) (j i : Nat) : Prop := d j = true → d i = true
theorem Imp.keep {d : Nat → Bool} {j i k : Nat} (h : Imp d j i) (hj : j ≠ k) : Imp (upd d k) j i := fun h1 => by
  rw [upd_ne hj] at h1
  simp [upd, h h1]
theorem Imp.new {d : Nat → Bool} {j i : Nat} (h : d i = true) : Imp (upd d j) j i := fun _ => by simp [upd, h]
theorem Imp.off {d : Nat → Bool} {j i : Nat} (h : Imp d j i) (hi : d i = false) : d j = false := by
  cases hj : d j
  · rfl
  · rw [h hj] at hi; cases hi
def Dif (d : Nat → Bool) (i j : Nat) (v v' : Value) : Prop := d i = true → d j = true → v ≠ v'
theorem Dif.keep {d : Nat → Bool} {i j k : Nat} {v v' : Value} (h : Dif d i j v v') (hi : i ≠ k) (hj : j ≠ k) : Dif (upd d k) i j v v' := fun h1 h2 => h (by rwa [upd_ne hi] at h1) (by rwa [upd_ne hj] at h2)
theorem Dif.newR {w : World} {T : TypeId} {b : Nat} {d : Nat → Bool} {i j k : Nat} {v : Value} {z : St} (h : Cb w T b d i k v z) (hij : i ≠ j) : Dif (upd d j) i j v (.pointer (some ⟨w.heap.size, 0, none⟩)) := by
  intro h1 _
  rw [upd_ne hij] at h1
  obtain ⟨g, e, _, hs⟩ := h h1
  rw [e]
  intro he
  injection he with he
  injection he with he
  injection he with he
  have := hs.lt
  omega
theorem Dif.newL {w : World} {T : TypeId} {b : Nat} {d : Nat → Bool} {i j k : Nat} {v : Value} {z : St} (h : Cb w T b d j k v z) (hij : j ≠ i) : Dif (upd d i) i j (.pointer (some ⟨w.heap.size, 0, none⟩)) v :=
  fun h1 h2 e => Dif.newR h hij h2 h1 e.symm
/-- A store into one new set leaves another one. -/
theorem Cb.other {w : World} {T : TypeId} {b : Nat} {d : Nat → Bool} {i j k : Nat} {v : Value} {z u : St} {g : Nat} (h : Cb w T b d i j v z) (hi : i ≠ k) (hj : j ≠ k) (hv : d i = true → v ≠ .pointer (some ⟨g, 0, none⟩)) :
    Cb ((((w.setCell ⟨g, 0, none⟩ (.int .u64 u.w0)).setCell ⟨g, 1, none⟩ (.int .u64 u.w1)).setCell ⟨g, 2, none⟩ (.int .u64 u.w2)).setCell ⟨g, 3, none⟩ (.int .u64 u.w3)) T b (upd d k) i j v z := by
  intro h1
  rw [upd_ne hi] at h1
  obtain ⟨g', e, hb, hs⟩ := h h1
  refine ⟨g', e, hb, ?_⟩
  rw [upd_ne hj]
  refine hs.other ?_ u
  rintro rfl
  exact hv h1 e
theorem Cb.stored {w : World} {T : TypeId} {b : Nat} {d : Nat → Bool} {i j : Nat} {z : St} {g : Nat} (h : Cb w T b d i j (.pointer (some ⟨g, 0, none⟩)) z) (_hi : i ≠ j) (h1 : d i = true) :
    Cb ((((w.setCell ⟨g, 0, none⟩ (.int .u64 z.w0)).setCell ⟨g, 1, none⟩ (.int .u64 z.w1)).setCell ⟨g, 2, none⟩ (.int .u64 z.w2)).setCell ⟨g, 3, none⟩ (.int .u64 z.w3)) T b (upd d j) i j (.pointer (some ⟨g, 0, none⟩)) z := by
  intro _
  obtain ⟨g', e, hb, hs⟩ := h h1
  injection e with e
  injection e with e
  injection e with e
  subst e
  refine ⟨g, rfl, hb, ?_⟩
  rw [upd_same]
  exact hs.store z

structure OpsInv (W : World) (s t : St) (T : TypeId) (ga gb : Nat) (d : Nat → Bool) (v5 v6 v7 v8 v15 v16 v17 v18 v19 v20 v21 v22 v23 v24 v25 : Value) (w : World) : Prop where
  hab : W.heap.size ≤ ga ∧ ga < gb
  below : Below W.heap.size W w
  sa : SetAt w ga T s
  sb : SetAt w gb T t
  x0 : Vs d 0 v15 s
  x1 : Vs d 1 v16 t
  x2 : Vs d 2 v17 (s.or t)
  x3 : Vs d 3 v18 s
  x4 : Vs d 4 v19 t
  x5 : Vs d 5 v20 (s.and t)
  x6 : Vs d 6 v21 s
  x7 : Vs d 7 v22 t
  x8 : Vs d 8 v23 (s.sub t)
  x9 : Vs d 9 v24 s
  x10 : Vs d 10 v25 s.not
  c11 : Cb w T (gb + 1) d 11 15 v5 (s.or t)
  c12 : Cb w T (gb + 1) d 12 16 v6 (s.and t)
  c13 : Cb w T (gb + 1) d 13 17 v7 (s.sub t)
  c14 : Cb w T (gb + 1) d 14 18 v8 s.not
  q11 : Imp d 15 11
  q12 : Imp d 16 12
  q13 : Imp d 17 13
  q14 : Imp d 18 14
  p11x12 : Dif d 11 12 v5 v6
  p11x13 : Dif d 11 13 v5 v7
  p11x14 : Dif d 11 14 v5 v8
  p12x13 : Dif d 12 13 v6 v7
  p12x14 : Dif d 12 14 v6 v8
  p13x14 : Dif d 13 14 v7 v8

variable {W : World} {s t : St} {T : TypeId} {ga gb : Nat} {d : Nat → Bool} {v5 v6 v7 v8 v15 v16 v17 v18 v19 v20 v21 v22 v23 v24 v25 : Value} {w w' : World}
theorem OpsInv.s0 (h : OpsInv W s t T ga gb d v5 v6 v7 v8 v15 v16 v17 v18 v19 v20 v21 v22 v23 v24 v25 w) : OpsInv W s t T ga gb (upd d 0) v5 v6 v7 v8 (sv s) v16 v17 v18 v19 v20 v21 v22 v23 v24 v25 w :=
  ⟨h.hab,
   h.below,
   h.sa,
   h.sb,
   Vs.new _ _ _,
   h.x1.keep (by decide),
   h.x2.keep (by decide),
   h.x3.keep (by decide),
   h.x4.keep (by decide),
   h.x5.keep (by decide),
   h.x6.keep (by decide),
   h.x7.keep (by decide),
   h.x8.keep (by decide),
   h.x9.keep (by decide),
   h.x10.keep (by decide),
   h.c11.keep (by decide) (by decide) (fun _ _ h => h),
   h.c12.keep (by decide) (by decide) (fun _ _ h => h),
   h.c13.keep (by decide) (by decide) (fun _ _ h => h),
   h.c14.keep (by decide) (by decide) (fun _ _ h => h),
   h.q11.keep (by decide),
   h.q12.keep (by decide),
   h.q13.keep (by decide),
   h.q14.keep (by decide),
   h.p11x12.keep (by decide) (by decide),
   h.p11x13.keep (by decide) (by decide),
   h.p11x14.keep (by decide) (by decide),
   h.p12x13.keep (by decide) (by decide),
   h.p12x14.keep (by decide) (by decide),
   h.p13x14.keep (by decide) (by decide)⟩
theorem OpsInv.s1 (h : OpsInv W s t T ga gb d v5 v6 v7 v8 v15 v16 v17 v18 v19 v20 v21 v22 v23 v24 v25 w) : OpsInv W s t T ga gb (upd d 1) v5 v6 v7 v8 v15 (sv t) v17 v18 v19 v20 v21 v22 v23 v24 v25 w :=
  ⟨h.hab,
   h.below,
   h.sa,
   h.sb,
   h.x0.keep (by decide),
   Vs.new _ _ _,
   h.x2.keep (by decide),
   h.x3.keep (by decide),
   h.x4.keep (by decide),
   h.x5.keep (by decide),
   h.x6.keep (by decide),
   h.x7.keep (by decide),
   h.x8.keep (by decide),
   h.x9.keep (by decide),
   h.x10.keep (by decide),
   h.c11.keep (by decide) (by decide) (fun _ _ h => h),
   h.c12.keep (by decide) (by decide) (fun _ _ h => h),
   h.c13.keep (by decide) (by decide) (fun _ _ h => h),
   h.c14.keep (by decide) (by decide) (fun _ _ h => h),
   h.q11.keep (by decide),
   h.q12.keep (by decide),
   h.q13.keep (by decide),
   h.q14.keep (by decide),
   h.p11x12.keep (by decide) (by decide),
   h.p11x13.keep (by decide) (by decide),
   h.p11x14.keep (by decide) (by decide),
   h.p12x13.keep (by decide) (by decide),
   h.p12x14.keep (by decide) (by decide),
   h.p13x14.keep (by decide) (by decide)⟩
theorem OpsInv.s2 (h : OpsInv W s t T ga gb d v5 v6 v7 v8 v15 v16 v17 v18 v19 v20 v21 v22 v23 v24 v25 w) (hb : Below w.heap.size w w') : OpsInv W s t T ga gb (upd d 2) v5 v6 v7 v8 v15 v16 (sv (s.or t)) v18 v19 v20 v21 v22 v23 v24 v25 w' :=
  ⟨h.hab,
   below_step h.below hb rfl rfl rfl rfl,
   h.sa.next hb,
   h.sb.next hb,
   h.x0.keep (by decide),
   h.x1.keep (by decide),
   Vs.new _ _ _,
   h.x3.keep (by decide),
   h.x4.keep (by decide),
   h.x5.keep (by decide),
   h.x6.keep (by decide),
   h.x7.keep (by decide),
   h.x8.keep (by decide),
   h.x9.keep (by decide),
   h.x10.keep (by decide),
   h.c11.keep (by decide) (by decide) (fun _ _ h => h.next hb),
   h.c12.keep (by decide) (by decide) (fun _ _ h => h.next hb),
   h.c13.keep (by decide) (by decide) (fun _ _ h => h.next hb),
   h.c14.keep (by decide) (by decide) (fun _ _ h => h.next hb),
   h.q11.keep (by decide),
   h.q12.keep (by decide),
   h.q13.keep (by decide),
   h.q14.keep (by decide),
   h.p11x12.keep (by decide) (by decide),
   h.p11x13.keep (by decide) (by decide),
   h.p11x14.keep (by decide) (by decide),
   h.p12x13.keep (by decide) (by decide),
   h.p12x14.keep (by decide) (by decide),
   h.p13x14.keep (by decide) (by decide)⟩
theorem OpsInv.s3 (h : OpsInv W s t T ga gb d v5 v6 v7 v8 v15 v16 v17 v18 v19 v20 v21 v22 v23 v24 v25 w) : OpsInv W s t T ga gb (upd d 3) v5 v6 v7 v8 v15 v16 v17 (sv s) v19 v20 v21 v22 v23 v24 v25 w :=
  ⟨h.hab,
   h.below,
   h.sa,
   h.sb,
   h.x0.keep (by decide),
   h.x1.keep (by decide),
   h.x2.keep (by decide),
   Vs.new _ _ _,
   h.x4.keep (by decide),
   h.x5.keep (by decide),
   h.x6.keep (by decide),
   h.x7.keep (by decide),
   h.x8.keep (by decide),
   h.x9.keep (by decide),
   h.x10.keep (by decide),
   h.c11.keep (by decide) (by decide) (fun _ _ h => h),
   h.c12.keep (by decide) (by decide) (fun _ _ h => h),
   h.c13.keep (by decide) (by decide) (fun _ _ h => h),
   h.c14.keep (by decide) (by decide) (fun _ _ h => h),
   h.q11.keep (by decide),
   h.q12.keep (by decide),
   h.q13.keep (by decide),
   h.q14.keep (by decide),
   h.p11x12.keep (by decide) (by decide),
   h.p11x13.keep (by decide) (by decide),
   h.p11x14.keep (by decide) (by decide),
   h.p12x13.keep (by decide) (by decide),
   h.p12x14.keep (by decide) (by decide),
   h.p13x14.keep (by decide) (by decide)⟩
theorem OpsInv.s4 (h : OpsInv W s t T ga gb d v5 v6 v7 v8 v15 v16 v17 v18 v19 v20 v21 v22 v23 v24 v25 w) : OpsInv W s t T ga gb (upd d 4) v5 v6 v7 v8 v15 v16 v17 v18 (sv t) v20 v21 v22 v23 v24 v25 w :=
  ⟨h.hab,
   h.below,
   h.sa,
   h.sb,
   h.x0.keep (by decide),
   h.x1.keep (by decide),
   h.x2.keep (by decide),
   h.x3.keep (by decide),
   Vs.new _ _ _,
   h.x5.keep (by decide),
   h.x6.keep (by decide),
   h.x7.keep (by decide),
   h.x8.keep (by decide),
   h.x9.keep (by decide),
   h.x10.keep (by decide),
   h.c11.keep (by decide) (by decide) (fun _ _ h => h),
   h.c12.keep (by decide) (by decide) (fun _ _ h => h),
   h.c13.keep (by decide) (by decide) (fun _ _ h => h),
   h.c14.keep (by decide) (by decide) (fun _ _ h => h),
   h.q11.keep (by decide),
   h.q12.keep (by decide),
   h.q13.keep (by decide),
   h.q14.keep (by decide),
   h.p11x12.keep (by decide) (by decide),
   h.p11x13.keep (by decide) (by decide),
   h.p11x14.keep (by decide) (by decide),
   h.p12x13.keep (by decide) (by decide),
   h.p12x14.keep (by decide) (by decide),
   h.p13x14.keep (by decide) (by decide)⟩
theorem OpsInv.s5 (h : OpsInv W s t T ga gb d v5 v6 v7 v8 v15 v16 v17 v18 v19 v20 v21 v22 v23 v24 v25 w) (hb : Below w.heap.size w w') : OpsInv W s t T ga gb (upd d 5) v5 v6 v7 v8 v15 v16 v17 v18 v19 (sv (s.and t)) v21 v22 v23 v24 v25 w' :=
  ⟨h.hab,
   below_step h.below hb rfl rfl rfl rfl,
   h.sa.next hb,
   h.sb.next hb,
   h.x0.keep (by decide),
   h.x1.keep (by decide),
   h.x2.keep (by decide),
   h.x3.keep (by decide),
   h.x4.keep (by decide),
   Vs.new _ _ _,
   h.x6.keep (by decide),
   h.x7.keep (by decide),
   h.x8.keep (by decide),
   h.x9.keep (by decide),
   h.x10.keep (by decide),
   h.c11.keep (by decide) (by decide) (fun _ _ h => h.next hb),
   h.c12.keep (by decide) (by decide) (fun _ _ h => h.next hb),
   h.c13.keep (by decide) (by decide) (fun _ _ h => h.next hb),
   h.c14.keep (by decide) (by decide) (fun _ _ h => h.next hb),
   h.q11.keep (by decide),
   h.q12.keep (by decide),
   h.q13.keep (by decide),
   h.q14.keep (by decide),
   h.p11x12.keep (by decide) (by decide),
   h.p11x13.keep (by decide) (by decide),
   h.p11x14.keep (by decide) (by decide),
   h.p12x13.keep (by decide) (by decide),
   h.p12x14.keep (by decide) (by decide),
   h.p13x14.keep (by decide) (by decide)⟩
theorem OpsInv.s6 (h : OpsInv W s t T ga gb d v5 v6 v7 v8 v15 v16 v17 v18 v19 v20 v21 v22 v23 v24 v25 w) : OpsInv W s t T ga gb (upd d 6) v5 v6 v7 v8 v15 v16 v17 v18 v19 v20 (sv s) v22 v23 v24 v25 w :=
  ⟨h.hab,
   h.below,
   h.sa,
   h.sb,
   h.x0.keep (by decide),
   h.x1.keep (by decide),
   h.x2.keep (by decide),
   h.x3.keep (by decide),
   h.x4.keep (by decide),
   h.x5.keep (by decide),
   Vs.new _ _ _,
   h.x7.keep (by decide),
   h.x8.keep (by decide),
   h.x9.keep (by decide),
   h.x10.keep (by decide),
   h.c11.keep (by decide) (by decide) (fun _ _ h => h),
   h.c12.keep (by decide) (by decide) (fun _ _ h => h),
   h.c13.keep (by decide) (by decide) (fun _ _ h => h),
   h.c14.keep (by decide) (by decide) (fun _ _ h => h),
   h.q11.keep (by decide),
   h.q12.keep (by decide),
   h.q13.keep (by decide),
   h.q14.keep (by decide),
   h.p11x12.keep (by decide) (by decide),
   h.p11x13.keep (by decide) (by decide),
   h.p11x14.keep (by decide) (by decide),
   h.p12x13.keep (by decide) (by decide),
   h.p12x14.keep (by decide) (by decide),
   h.p13x14.keep (by decide) (by decide)⟩
theorem OpsInv.s7 (h : OpsInv W s t T ga gb d v5 v6 v7 v8 v15 v16 v17 v18 v19 v20 v21 v22 v23 v24 v25 w) : OpsInv W s t T ga gb (upd d 7) v5 v6 v7 v8 v15 v16 v17 v18 v19 v20 v21 (sv t) v23 v24 v25 w :=
  ⟨h.hab,
   h.below,
   h.sa,
   h.sb,
   h.x0.keep (by decide),
   h.x1.keep (by decide),
   h.x2.keep (by decide),
   h.x3.keep (by decide),
   h.x4.keep (by decide),
   h.x5.keep (by decide),
   h.x6.keep (by decide),
   Vs.new _ _ _,
   h.x8.keep (by decide),
   h.x9.keep (by decide),
   h.x10.keep (by decide),
   h.c11.keep (by decide) (by decide) (fun _ _ h => h),
   h.c12.keep (by decide) (by decide) (fun _ _ h => h),
   h.c13.keep (by decide) (by decide) (fun _ _ h => h),
   h.c14.keep (by decide) (by decide) (fun _ _ h => h),
   h.q11.keep (by decide),
   h.q12.keep (by decide),
   h.q13.keep (by decide),
   h.q14.keep (by decide),
   h.p11x12.keep (by decide) (by decide),
   h.p11x13.keep (by decide) (by decide),
   h.p11x14.keep (by decide) (by decide),
   h.p12x13.keep (by decide) (by decide),
   h.p12x14.keep (by decide) (by decide),
   h.p13x14.keep (by decide) (by decide)⟩
theorem OpsInv.s8 (h : OpsInv W s t T ga gb d v5 v6 v7 v8 v15 v16 v17 v18 v19 v20 v21 v22 v23 v24 v25 w) (hb : Below w.heap.size w w') : OpsInv W s t T ga gb (upd d 8) v5 v6 v7 v8 v15 v16 v17 v18 v19 v20 v21 v22 (sv (s.sub t)) v24 v25 w' :=
  ⟨h.hab,
   below_step h.below hb rfl rfl rfl rfl,
   h.sa.next hb,
   h.sb.next hb,
   h.x0.keep (by decide),
   h.x1.keep (by decide),
   h.x2.keep (by decide),
   h.x3.keep (by decide),
   h.x4.keep (by decide),
   h.x5.keep (by decide),
   h.x6.keep (by decide),
   h.x7.keep (by decide),
   Vs.new _ _ _,
   h.x9.keep (by decide),
   h.x10.keep (by decide),
   h.c11.keep (by decide) (by decide) (fun _ _ h => h.next hb),
   h.c12.keep (by decide) (by decide) (fun _ _ h => h.next hb),
   h.c13.keep (by decide) (by decide) (fun _ _ h => h.next hb),
   h.c14.keep (by decide) (by decide) (fun _ _ h => h.next hb),
   h.q11.keep (by decide),
   h.q12.keep (by decide),
   h.q13.keep (by decide),
   h.q14.keep (by decide),
   h.p11x12.keep (by decide) (by decide),
   h.p11x13.keep (by decide) (by decide),
   h.p11x14.keep (by decide) (by decide),
   h.p12x13.keep (by decide) (by decide),
   h.p12x14.keep (by decide) (by decide),
   h.p13x14.keep (by decide) (by decide)⟩
theorem OpsInv.s9 (h : OpsInv W s t T ga gb d v5 v6 v7 v8 v15 v16 v17 v18 v19 v20 v21 v22 v23 v24 v25 w) : OpsInv W s t T ga gb (upd d 9) v5 v6 v7 v8 v15 v16 v17 v18 v19 v20 v21 v22 v23 (sv s) v25 w :=
  ⟨h.hab,
   h.below,
   h.sa,
   h.sb,
   h.x0.keep (by decide),
   h.x1.keep (by decide),
   h.x2.keep (by decide),
   h.x3.keep (by decide),
   h.x4.keep (by decide),
   h.x5.keep (by decide),
   h.x6.keep (by decide),
   h.x7.keep (by decide),
   h.x8.keep (by decide),
   Vs.new _ _ _,
   h.x10.keep (by decide),
   h.c11.keep (by decide) (by decide) (fun _ _ h => h),
   h.c12.keep (by decide) (by decide) (fun _ _ h => h),
   h.c13.keep (by decide) (by decide) (fun _ _ h => h),
   h.c14.keep (by decide) (by decide) (fun _ _ h => h),
   h.q11.keep (by decide),
   h.q12.keep (by decide),
   h.q13.keep (by decide),
   h.q14.keep (by decide),
   h.p11x12.keep (by decide) (by decide),
   h.p11x13.keep (by decide) (by decide),
   h.p11x14.keep (by decide) (by decide),
   h.p12x13.keep (by decide) (by decide),
   h.p12x14.keep (by decide) (by decide),
   h.p13x14.keep (by decide) (by decide)⟩
theorem OpsInv.s10 (h : OpsInv W s t T ga gb d v5 v6 v7 v8 v15 v16 v17 v18 v19 v20 v21 v22 v23 v24 v25 w) (hb : Below w.heap.size w w') : OpsInv W s t T ga gb (upd d 10) v5 v6 v7 v8 v15 v16 v17 v18 v19 v20 v21 v22 v23 v24 (sv s.not) w' :=
  ⟨h.hab,
   below_step h.below hb rfl rfl rfl rfl,
   h.sa.next hb,
   h.sb.next hb,
   h.x0.keep (by decide),
   h.x1.keep (by decide),
   h.x2.keep (by decide),
   h.x3.keep (by decide),
   h.x4.keep (by decide),
   h.x5.keep (by decide),
   h.x6.keep (by decide),
   h.x7.keep (by decide),
   h.x8.keep (by decide),
   h.x9.keep (by decide),
   Vs.new _ _ _,
   h.c11.keep (by decide) (by decide) (fun _ _ h => h.next hb),
   h.c12.keep (by decide) (by decide) (fun _ _ h => h.next hb),
   h.c13.keep (by decide) (by decide) (fun _ _ h => h.next hb),
   h.c14.keep (by decide) (by decide) (fun _ _ h => h.next hb),
   h.q11.keep (by decide),
   h.q12.keep (by decide),
   h.q13.keep (by decide),
   h.q14.keep (by decide),
   h.p11x12.keep (by decide) (by decide),
   h.p11x13.keep (by decide) (by decide),
   h.p11x14.keep (by decide) (by decide),
   h.p12x13.keep (by decide) (by decide),
   h.p12x14.keep (by decide) (by decide),
   h.p13x14.keep (by decide) (by decide)⟩
theorem OpsInv.s11 (h : OpsInv W s t T ga gb d v5 v6 v7 v8 v15 v16 v17 v18 v19 v20 v21 v22 v23 v24 v25 w) (hd : d 11 = false) : OpsInv W s t T ga gb (upd d 11) (.pointer (some ⟨w.heap.size, 0, none⟩)) v6 v7 v8 v15 v16 v17 v18 v19 v20 v21 v22 v23 v24 v25 (w.alloc (.cells #[.int .u64 0, .int .u64 0, .int .u64 0, .int .u64 0] T)) :=
  ⟨h.hab,
   h.below.alloc h.below.size _,
   h.sa.alloc _,
   h.sb.alloc _,
   h.x0.keep (by decide),
   h.x1.keep (by decide),
   h.x2.keep (by decide),
   h.x3.keep (by decide),
   h.x4.keep (by decide),
   h.x5.keep (by decide),
   h.x6.keep (by decide),
   h.x7.keep (by decide),
   h.x8.keep (by decide),
   h.x9.keep (by decide),
   h.x10.keep (by decide),
   Cb.new (by have := h.sb.lt; omega) (by decide) (h.q11.off hd),
   h.c12.keep (by decide) (by decide) (fun _ _ h => h.alloc _),
   h.c13.keep (by decide) (by decide) (fun _ _ h => h.alloc _),
   h.c14.keep (by decide) (by decide) (fun _ _ h => h.alloc _),
   h.q11.keep (by decide),
   h.q12.keep (by decide),
   h.q13.keep (by decide),
   h.q14.keep (by decide),
   Dif.newL h.c12 (by decide),
   Dif.newL h.c13 (by decide),
   Dif.newL h.c14 (by decide),
   h.p12x13.keep (by decide) (by decide),
   h.p12x14.keep (by decide) (by decide),
   h.p13x14.keep (by decide) (by decide)⟩
theorem OpsInv.s12 (h : OpsInv W s t T ga gb d v5 v6 v7 v8 v15 v16 v17 v18 v19 v20 v21 v22 v23 v24 v25 w) (hd : d 12 = false) : OpsInv W s t T ga gb (upd d 12) v5 (.pointer (some ⟨w.heap.size, 0, none⟩)) v7 v8 v15 v16 v17 v18 v19 v20 v21 v22 v23 v24 v25 (w.alloc (.cells #[.int .u64 0, .int .u64 0, .int .u64 0, .int .u64 0] T)) :=
  ⟨h.hab,
   h.below.alloc h.below.size _,
   h.sa.alloc _,
   h.sb.alloc _,
   h.x0.keep (by decide),
   h.x1.keep (by decide),
   h.x2.keep (by decide),
   h.x3.keep (by decide),
   h.x4.keep (by decide),
   h.x5.keep (by decide),
   h.x6.keep (by decide),
   h.x7.keep (by decide),
   h.x8.keep (by decide),
   h.x9.keep (by decide),
   h.x10.keep (by decide),
   h.c11.keep (by decide) (by decide) (fun _ _ h => h.alloc _),
   Cb.new (by have := h.sb.lt; omega) (by decide) (h.q12.off hd),
   h.c13.keep (by decide) (by decide) (fun _ _ h => h.alloc _),
   h.c14.keep (by decide) (by decide) (fun _ _ h => h.alloc _),
   h.q11.keep (by decide),
   h.q12.keep (by decide),
   h.q13.keep (by decide),
   h.q14.keep (by decide),
   Dif.newR h.c11 (by decide),
   h.p11x13.keep (by decide) (by decide),
   h.p11x14.keep (by decide) (by decide),
   Dif.newL h.c13 (by decide),
   Dif.newL h.c14 (by decide),
   h.p13x14.keep (by decide) (by decide)⟩
theorem OpsInv.s13 (h : OpsInv W s t T ga gb d v5 v6 v7 v8 v15 v16 v17 v18 v19 v20 v21 v22 v23 v24 v25 w) (hd : d 13 = false) : OpsInv W s t T ga gb (upd d 13) v5 v6 (.pointer (some ⟨w.heap.size, 0, none⟩)) v8 v15 v16 v17 v18 v19 v20 v21 v22 v23 v24 v25 (w.alloc (.cells #[.int .u64 0, .int .u64 0, .int .u64 0, .int .u64 0] T)) :=
  ⟨h.hab,
   h.below.alloc h.below.size _,
   h.sa.alloc _,
   h.sb.alloc _,
   h.x0.keep (by decide),
   h.x1.keep (by decide),
   h.x2.keep (by decide),
   h.x3.keep (by decide),
   h.x4.keep (by decide),
   h.x5.keep (by decide),
   h.x6.keep (by decide),
   h.x7.keep (by decide),
   h.x8.keep (by decide),
   h.x9.keep (by decide),
   h.x10.keep (by decide),
   h.c11.keep (by decide) (by decide) (fun _ _ h => h.alloc _),
   h.c12.keep (by decide) (by decide) (fun _ _ h => h.alloc _),
   Cb.new (by have := h.sb.lt; omega) (by decide) (h.q13.off hd),
   h.c14.keep (by decide) (by decide) (fun _ _ h => h.alloc _),
   h.q11.keep (by decide),
   h.q12.keep (by decide),
   h.q13.keep (by decide),
   h.q14.keep (by decide),
   h.p11x12.keep (by decide) (by decide),
   Dif.newR h.c11 (by decide),
   h.p11x14.keep (by decide) (by decide),
   Dif.newR h.c12 (by decide),
   h.p12x14.keep (by decide) (by decide),
   Dif.newL h.c14 (by decide)⟩
theorem OpsInv.s14 (h : OpsInv W s t T ga gb d v5 v6 v7 v8 v15 v16 v17 v18 v19 v20 v21 v22 v23 v24 v25 w) (hd : d 14 = false) : OpsInv W s t T ga gb (upd d 14) v5 v6 v7 (.pointer (some ⟨w.heap.size, 0, none⟩)) v15 v16 v17 v18 v19 v20 v21 v22 v23 v24 v25 (w.alloc (.cells #[.int .u64 0, .int .u64 0, .int .u64 0, .int .u64 0] T)) :=
  ⟨h.hab,
   h.below.alloc h.below.size _,
   h.sa.alloc _,
   h.sb.alloc _,
   h.x0.keep (by decide),
   h.x1.keep (by decide),
   h.x2.keep (by decide),
   h.x3.keep (by decide),
   h.x4.keep (by decide),
   h.x5.keep (by decide),
   h.x6.keep (by decide),
   h.x7.keep (by decide),
   h.x8.keep (by decide),
   h.x9.keep (by decide),
   h.x10.keep (by decide),
   h.c11.keep (by decide) (by decide) (fun _ _ h => h.alloc _),
   h.c12.keep (by decide) (by decide) (fun _ _ h => h.alloc _),
   h.c13.keep (by decide) (by decide) (fun _ _ h => h.alloc _),
   Cb.new (by have := h.sb.lt; omega) (by decide) (h.q14.off hd),
   h.q11.keep (by decide),
   h.q12.keep (by decide),
   h.q13.keep (by decide),
   h.q14.keep (by decide),
   h.p11x12.keep (by decide) (by decide),
   h.p11x13.keep (by decide) (by decide),
   Dif.newR h.c11 (by decide),
   h.p12x13.keep (by decide) (by decide),
   Dif.newR h.c12 (by decide),
   Dif.newR h.c13 (by decide)⟩
theorem OpsInv.s15 {g : Nat} (h : OpsInv W s t T ga gb d (.pointer (some ⟨g, 0, none⟩)) v6 v7 v8 v15 v16 v17 v18 v19 v20 v21 v22 v23 v24 v25 w) (hi : d 11 = true) (hg : gb + 1 ≤ g) : OpsInv W s t T ga gb (upd d 15) (.pointer (some ⟨g, 0, none⟩)) v6 v7 v8 v15 v16 v17 v18 v19 v20 v21 v22 v23 v24 v25 ((((w.setCell ⟨g, 0, none⟩ (.int .u64 (s.or t).w0)).setCell ⟨g, 1, none⟩ (.int .u64 (s.or t).w1)).setCell ⟨g, 2, none⟩ (.int .u64 (s.or t).w2)).setCell ⟨g, 3, none⟩ (.int .u64 (s.or t).w3)) :=
  ⟨h.hab,
   below_store h.below (by have := h.hab; omega) _,
   h.sa.other (by have := h.hab; omega) _,
   h.sb.other (by omega) _,
   h.x0.keep (by decide),
   h.x1.keep (by decide),
   h.x2.keep (by decide),
   h.x3.keep (by decide),
   h.x4.keep (by decide),
   h.x5.keep (by decide),
   h.x6.keep (by decide),
   h.x7.keep (by decide),
   h.x8.keep (by decide),
   h.x9.keep (by decide),
   h.x10.keep (by decide),
   Cb.stored h.c11 (by decide) hi,
   h.c12.other (by decide) (by decide) (fun h1 e => h.p11x12 hi h1 e.symm),
   h.c13.other (by decide) (by decide) (fun h1 e => h.p11x13 hi h1 e.symm),
   h.c14.other (by decide) (by decide) (fun h1 e => h.p11x14 hi h1 e.symm),
   Imp.new hi,
   h.q12.keep (by decide),
   h.q13.keep (by decide),
   h.q14.keep (by decide),
   h.p11x12.keep (by decide) (by decide),
   h.p11x13.keep (by decide) (by decide),
   h.p11x14.keep (by decide) (by decide),
   h.p12x13.keep (by decide) (by decide),
   h.p12x14.keep (by decide) (by decide),
   h.p13x14.keep (by decide) (by decide)⟩
theorem OpsInv.s16 {g : Nat} (h : OpsInv W s t T ga gb d v5 (.pointer (some ⟨g, 0, none⟩)) v7 v8 v15 v16 v17 v18 v19 v20 v21 v22 v23 v24 v25 w) (hi : d 12 = true) (hg : gb + 1 ≤ g) : OpsInv W s t T ga gb (upd d 16) v5 (.pointer (some ⟨g, 0, none⟩)) v7 v8 v15 v16 v17 v18 v19 v20 v21 v22 v23 v24 v25 ((((w.setCell ⟨g, 0, none⟩ (.int .u64 (s.and t).w0)).setCell ⟨g, 1, none⟩ (.int .u64 (s.and t).w1)).setCell ⟨g, 2, none⟩ (.int .u64 (s.and t).w2)).setCell ⟨g, 3, none⟩ (.int .u64 (s.and t).w3)) :=
  ⟨h.hab,
   below_store h.below (by have := h.hab; omega) _,
   h.sa.other (by have := h.hab; omega) _,
   h.sb.other (by omega) _,
   h.x0.keep (by decide),
   h.x1.keep (by decide),
   h.x2.keep (by decide),
   h.x3.keep (by decide),
   h.x4.keep (by decide),
   h.x5.keep (by decide),
   h.x6.keep (by decide),
   h.x7.keep (by decide),
   h.x8.keep (by decide),
   h.x9.keep (by decide),
   h.x10.keep (by decide),
   h.c11.other (by decide) (by decide) (fun h1 => h.p11x12 h1 hi),
   Cb.stored h.c12 (by decide) hi,
   h.c13.other (by decide) (by decide) (fun h1 e => h.p12x13 hi h1 e.symm),
   h.c14.other (by decide) (by decide) (fun h1 e => h.p12x14 hi h1 e.symm),
   h.q11.keep (by decide),
   Imp.new hi,
   h.q13.keep (by decide),
   h.q14.keep (by decide),
   h.p11x12.keep (by decide) (by decide),
   h.p11x13.keep (by decide) (by decide),
   h.p11x14.keep (by decide) (by decide),
   h.p12x13.keep (by decide) (by decide),
   h.p12x14.keep (by decide) (by decide),
   h.p13x14.keep (by decide) (by decide)⟩
theorem OpsInv.s17 {g : Nat} (h : OpsInv W s t T ga gb d v5 v6 (.pointer (some ⟨g, 0, none⟩)) v8 v15 v16 v17 v18 v19 v20 v21 v22 v23 v24 v25 w) (hi : d 13 = true) (hg : gb + 1 ≤ g) : OpsInv W s t T ga gb (upd d 17) v5 v6 (.pointer (some ⟨g, 0, none⟩)) v8 v15 v16 v17 v18 v19 v20 v21 v22 v23 v24 v25 ((((w.setCell ⟨g, 0, none⟩ (.int .u64 (s.sub t).w0)).setCell ⟨g, 1, none⟩ (.int .u64 (s.sub t).w1)).setCell ⟨g, 2, none⟩ (.int .u64 (s.sub t).w2)).setCell ⟨g, 3, none⟩ (.int .u64 (s.sub t).w3)) :=
  ⟨h.hab,
   below_store h.below (by have := h.hab; omega) _,
   h.sa.other (by have := h.hab; omega) _,
   h.sb.other (by omega) _,
   h.x0.keep (by decide),
   h.x1.keep (by decide),
   h.x2.keep (by decide),
   h.x3.keep (by decide),
   h.x4.keep (by decide),
   h.x5.keep (by decide),
   h.x6.keep (by decide),
   h.x7.keep (by decide),
   h.x8.keep (by decide),
   h.x9.keep (by decide),
   h.x10.keep (by decide),
   h.c11.other (by decide) (by decide) (fun h1 => h.p11x13 h1 hi),
   h.c12.other (by decide) (by decide) (fun h1 => h.p12x13 h1 hi),
   Cb.stored h.c13 (by decide) hi,
   h.c14.other (by decide) (by decide) (fun h1 e => h.p13x14 hi h1 e.symm),
   h.q11.keep (by decide),
   h.q12.keep (by decide),
   Imp.new hi,
   h.q14.keep (by decide),
   h.p11x12.keep (by decide) (by decide),
   h.p11x13.keep (by decide) (by decide),
   h.p11x14.keep (by decide) (by decide),
   h.p12x13.keep (by decide) (by decide),
   h.p12x14.keep (by decide) (by decide),
   h.p13x14.keep (by decide) (by decide)⟩
theorem OpsInv.s18 {g : Nat} (h : OpsInv W s t T ga gb d v5 v6 v7 (.pointer (some ⟨g, 0, none⟩)) v15 v16 v17 v18 v19 v20 v21 v22 v23 v24 v25 w) (hi : d 14 = true) (hg : gb + 1 ≤ g) : OpsInv W s t T ga gb (upd d 18) v5 v6 v7 (.pointer (some ⟨g, 0, none⟩)) v15 v16 v17 v18 v19 v20 v21 v22 v23 v24 v25 ((((w.setCell ⟨g, 0, none⟩ (.int .u64 s.not.w0)).setCell ⟨g, 1, none⟩ (.int .u64 s.not.w1)).setCell ⟨g, 2, none⟩ (.int .u64 s.not.w2)).setCell ⟨g, 3, none⟩ (.int .u64 s.not.w3)) :=
  ⟨h.hab,
   below_store h.below (by have := h.hab; omega) _,
   h.sa.other (by have := h.hab; omega) _,
   h.sb.other (by omega) _,
   h.x0.keep (by decide),
   h.x1.keep (by decide),
   h.x2.keep (by decide),
   h.x3.keep (by decide),
   h.x4.keep (by decide),
   h.x5.keep (by decide),
   h.x6.keep (by decide),
   h.x7.keep (by decide),
   h.x8.keep (by decide),
   h.x9.keep (by decide),
   h.x10.keep (by decide),
   h.c11.other (by decide) (by decide) (fun h1 => h.p11x14 h1 hi),
   h.c12.other (by decide) (by decide) (fun h1 => h.p12x14 h1 hi),
   h.c13.other (by decide) (by decide) (fun h1 => h.p13x14 h1 hi),
   Cb.stored h.c14 (by decide) hi,
   h.q11.keep (by decide),
   h.q12.keep (by decide),
   h.q13.keep (by decide),
   Imp.new hi,
   h.p11x12.keep (by decide) (by decide),
   h.p11x13.keep (by decide) (by decide),
   h.p11x14.keep (by decide) (by decide),
   h.p12x13.keep (by decide) (by decide),
   h.p12x14.keep (by decide) (by decide),
   h.p13x14.keep (by decide) (by decide)⟩
theorem OpsInv.start (hab : W.heap.size ≤ ga ∧ ga < gb) (hb : Below W.heap.size W w) (ha : SetAt w ga T s) (ht : SetAt w gb T t) : OpsInv W s t T ga gb (fun _ => false) v5 v6 v7 v8 v15 v16 v17 v18 v19 v20 v21 v22 v23 v24 v25 w :=
  ⟨hab, hb, ha, ht,
   (fun h => by cases h),
   (fun h => by cases h),
   (fun h => by cases h),
   (fun h => by cases h),
   (fun h => by cases h),
   (fun h => by cases h),
   (fun h => by cases h),
   (fun h => by cases h),
   (fun h => by cases h),
   (fun h => by cases h),
   (fun h => by cases h),
   (fun h => by cases h),
   (fun h => by cases h),
   (fun h => by cases h),
   (fun h => by cases h),
   (fun h => by cases h),
   (fun h => by cases h),
   (fun h => by cases h),
   (fun h => by cases h),
   (fun h _ => by cases h),
   (fun h _ => by cases h),
   (fun h _ => by cases h),
   (fun h _ => by cases h),
   (fun h _ => by cases h),
   (fun h _ => by cases h)⟩

end Go.Proofs.Ytdcmalfjciekoaa
