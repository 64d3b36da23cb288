/- Nodes in a row of the call's own, appended to; bolterref09.Nodes by what an arena does. -/
import Derived.Test.YtoicbahkoejhjaaArenaMade
namespace Go.Proofs.Ytoicbahkoejhjaa
open Go.RowKit
set_option linter.unusedSimpArgs false
set_option linter.unusedVariables false

def ndL (l : List Nd) : List Value := l.flatMap Nd.cs
theorem ndL_length (l : List Nd) : (ndL l).length = l.length * 8 := by
  induction l with
  | nil => rfl
  | cons x l ih => show (x.cs ++ ndL l).length = _; rw [List.length_append, ih, Nd.cs_length, List.length_cons]; omega
theorem ndL_at (l : List Nd) : ∀ (k i : Nat) (h : k < l.length), i < 8 → (ndL l)[k * 8 + i]? = (ndAt l k).cs[i]? := by
  induction l with
  | nil => intro k i h; exact absurd h (Nat.not_lt_zero _)
  | cons x l ih =>
    intro k i h hi
    show (x.cs ++ ndL l)[k * 8 + i]? = _
    cases k with
    | zero => rw [Nat.zero_mul, Nat.zero_add, List.getElem?_append_left (by rw [Nd.cs_length]; exact hi)]; rfl
    | succ k =>
      rw [List.getElem?_append_right (by rw [Nd.cs_length]; omega), Nd.cs_length, show (k + 1) * 8 + i - 8 = k * 8 + i by omega, ih k i (by simpa using h) hi]
      rfl
theorem ndL_snoc (l : List Nd) (x : Nd) : ndL l ++ x.cs = ndL (l ++ [x]) := by unfold ndL; rw [List.flatMap_append]; simp
section
variable {w w' : World} {base : Nat} {v : Value} {l : List Nd}
def NdRow (w : World) (base : Nat) (v : Value) (l : List Nd) : Prop := w.ownsRow base 34 8 v l.length (ndL l)
theorem NdRow.nil (w : World) (base : Nat) : NdRow w base (.slice none 0 0) [] := World.ownsRow_nil w base _ 8
theorem NdRow.grown {row : Option Nat} (h : NdRow w base v l) (hg : w.grownBy w' row) (hr : v.ownBlock = none ∨ v.ownBlock ≠ row) : NdRow w' base v l := World.ownsRow.kept h hg hr
theorem NdRow.next (h : NdRow w base v l) (hb : Below w.heap.size w w') : NdRow w' base v l :=
  World.ownsRow.kept (row := none) h (below_grown hb none) (by cases hv : v.ownBlock <;> simp)
theorem NdRow.alloc (h : NdRow w base v l) (o : Obj) : NdRow (w.alloc o) base v l := World.ownsRow.alloc h o
theorem NdRow.low (h : NdRow w base v l) : ∀ g, v.ownBlock = some g → base ≤ g := fun g hg => (World.ownsRow.lt h g hg).1
theorem NdRow.push {x : Nd} (h : w.ownsRow base 34 8 v (l.length + 1) (ndL l ++ x.cs)) : NdRow w base v (l ++ [x]) := by
  unfold NdRow
  rw [List.length_append, ← ndL_snoc]
  exact h
theorem NdRow.len (h : NdRow w base v l) : ∃ A cap, v = .slice A l.length cap := by
  rcases h.2 with ⟨rfl, hn⟩ | ⟨g, cap, cur, rfl, _⟩
  · exact ⟨none, 0, by rw [hn]⟩
  · exact ⟨_, _, rfl⟩
theorem NdRow.nds (h : NdRow w base v l) (hl : l.length ≤ 9223372036854775807) : NdsAt w v l := by
  obtain ⟨A, cap, rfl⟩ := h.len
  refine ⟨A, cap, rfl, hl, fun h0 => ?_⟩
  obtain ⟨g, cap', e, _, hg⟩ := World.ownsRow.form h h0
  injection e with e1 _ e3
  subst e1
  refine ⟨g, 0, rfl, hg, fun j hj i u hu => ?_⟩
  have hi : i < 8 := by
    have := (List.getElem?_eq_some_iff.1 hu).1
    rwa [Nd.cs_length] at this
  rw [Nat.zero_add, World.ownsRow.cellAt h (j * 8 + i) (by omega), ndL_at l j i hj hi]
  exact hu
end
theorem info_node : (Try.prog.info? 34).map (fun i => (i.zero, i.size, i.bytes)) = some (some (.agg Nd.zero.cs.toArray), 8, 64) := by kernel_rfl
theorem take_succ_nd (ns : List Nd) (j : Nat) (h : j < ns.length) : ns.take (j + 1) = ns.take j ++ [ndAt ns j] := by
  rw [ndAt_lt h, List.take_add_one, List.getElem?_eq_getElem h]; rfl
section
variable {AA : World → Value → List Nd → (Nat → Prop) → Prop}

set_option maxRecDepth 100000 in
set_option maxHeartbeats 4000000 in
theorem refNodes (S : ArenaSpec AA) (ns : List Nd) (a : Value) (F : Nat → Prop) (hl : ns.length ≤ 1000) (w : World) (h : AA w a ns F) :
    Calls Try.prog 18 #[a] w fun e w' => ∃ v, e = .returned v ∧ NdRow w' w.heap.size v ns ∧ Below w.heap.size w w' := by
  have HA := Lib.hid h
  clear h
  obtain ⟨i0, hi0, hz0, hz1, hz2⟩ := info_parts info_node
  go_enter Try.func18, Try.ntmps18
  go_wp2_with fail
  refine (S.len HA.out hl).mono ?_
  rintro e w1 ⟨rfl, q1, rfl⟩
  have HB1 := Lib.hid (below_drewN' (Below.refl w.heap.size w) q1)
  go_wp2_with fail
  go_loopw [3, 9] (fun v x wr => ∃ (j : Nat), j ≤ ns.length ∧ x = .int .i64 j ∧ Hid (NdRow wr w.heap.size v (ns.take j)) ∧ Hid (Below w.heap.size w wr)) (fun _ x _ => ns.length - (intOf x).toNat)
  case atStart => exact ⟨0, Nat.zero_le _, rfl, Lib.hid (NdRow.nil _ _), HB1⟩
  case round =>
    clear HB1
    obtain ⟨j, hj, rfl, HR, HB⟩ := hrel
    by_cases hjl : j < ns.length
    · have hjz : (0 : Int) ≤ (j : Int) := by omega
      have hjn : (j : Int) < (ns.length : Int) := by omega
      have HT := Lib.hid (take_succ_nd ns j hjl)
      have HTl : Hid ((ns.take j).length = j) := Lib.hid (by rw [List.length_take]; omega)
      go_wp2_with fail
      refine (S.node (j : Int) (S.next HA.out HB.out) (by unfold I64; omega) hl).mono ?_
      rintro e w4 ⟨y, rfl, hy, hb4⟩
      rw [Int.toNat_natCast] at hy
      rw [← hy ⟨by omega, by omega⟩] at HT
      have HB4 := Lib.hid (HB.out.trans (hb4.mono HB.out.size))
      have HR4 := Lib.hid (HR.out.next hb4)
      have HXb := Lib.hid (boxN_at w4 y)
      have HBb := Lib.hid (boxN_next w4 y)
      have HRb := Lib.hid (HR4.out.next HBb.out)
      have HBs := Lib.hid (HB4.out.trans (HBb.out.mono HB4.out.size))
      have hone := Nd.one y
      have hcl : y.cs.length = 8 := rfl
      have hs5 := HBs.out.size
      clear hy hb4
      go_wp2_with (first
        | (with_reducible show wpList _ _ _ ({ dst := none, op := .store _ _ _, type := _, pos := _, after := _, guard := _ } :: _) _ _
           refine wpList_store_row rfl 34 _ _ rfl w4.heap.size y.cs.toArray rfl rfl 34 Nd.zero.cs.toArray (At.new _ _ _) (by kernel_rfl) rfl hone ?_
           first | change wpList _ _ _ _ _ (boxN w4 y) | change Exit.then _ _ _ _ (boxN w4 y))
        | (with_reducible show wpList _ _ _ ({ dst := _, op := .load 34 (.tmp 5), type := _, pos := _, after := _, guard := _ } :: _) _ _
           refine wpList_load_row_want (by rfl) 34 _ rfl w4.heap.size rfl 34 y.cs.toArray (0, 0) _ HXb.out Try.underlying34 rfl (by rw [List.size_toArray, Nd.cs_length]; kernel_rfl) ?_)
        | (at_builtin
           refine wpList_append_own _ rfl _ _ _ rfl w.heap.size 34 i0 _ 8 64 Try.underlying22 hi0 hz0 hz1 hz2 rfl (by omega) u3 _ _ rfl (HRb.out.alloc _) ⟨_, 0, none⟩ 1 1 y.cs rfl rfl ?c1 ?c2 ?c3 ?c4 ?c5 ?_
           case c1 => exact (World.news_of_block (At.new _ _ _))
           case c2 => simp [Nd.cs, Value.oneCell']
           case c3 => rw [HTl.out]; unfold maxLen; omega
           case c4 => rw [HTl.out]; omega
           case c5 => simp; omega
           intro v' w6 hown6 hg6 _)
        | fail)
      refine ⟨⟨j + 1, by omega, by go_num, Lib.hid ?_, Lib.hid ((HBs.out.alloc hs5 _).grown hg6 (by simp; omega) (fun g hg => HRb.out.low g hg))⟩, by simp [intOf]; omega⟩
      rw [HT.out]; exact NdRow.push hown6
    · obtain rfl : ns.length = j := by omega
      go_wp2_with fail
      go_ret
      exact ⟨_, rfl, by have := HR.out; rw [List.take_length] at this; exact this, HB.out⟩
end

end Go.Proofs.Ytoicbahkoejhjaa
