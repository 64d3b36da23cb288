/- package formula: answer. -/
import Derived.Test.YtehokjaojanieaaFoK
namespace Go.Proofs.Ytehokjaojanieaa
open Go.RowKit
set_option linter.unusedVariables false
set_option linter.unusedSimpArgs false

theorem info_list : (Try.prog.info? 34).map (fun i => (i.zero, i.size, i.bytes)) = some (some (.slice none 0 0), 1, 24) := by kernel_rfl
theorem make_form (n : Nat) (hn : n ≤ 1000000) (w : World) : (Instr.makeSlice 23 (.int .i64 (n : Int)) (.int .i64 (n : Int))).run Try.prog w = .ok (.slice (some ⟨w.heap.size, 0, none⟩) n n) (w.alloc (.cells (madeCells #[.slice none 0 0] n) 34)) := by
  exact run_make_row' 23 34 (.slice none 0 0) 24 Try.underlying23 info_list rfl .i64 .i64 n (by omega) (by omega) w
theorem own_ints {w : World} {base : Nat} {v : Value} {l : List Int} (h : w.ownsRow base 3 1 v l.length (l.map (Value.int .i64))) (hI : ∀ x ∈ l, IsI x) :
    ∃ A c, v = .slice A l.length c ∧ IntsAt w v l ∧ ∀ b off s, A = some ⟨b, off, s⟩ → base ≤ b := by
  rcases h.2 with ⟨rfl, hn⟩ | ⟨g, cap, cur, rfl, hbg, hc, r1, r2, r3, r4⟩
  · have : l = [] := List.eq_nil_of_length_eq_zero hn
    subst this
    exact ⟨none, 0, rfl, ⟨none, 0, rfl, Nat.le_refl _, by omega, hI, fun h => absurd h (Nat.lt_irrefl _)⟩, fun b off s e => by cases e⟩
  · refine ⟨_, cap, rfl, ⟨_, cap, rfl, r1, by unfold maxLen at r2; omega, hI, fun h0 => ⟨g, 0, rfl, (Array.getElem?_eq_some_iff.1 hc).1, fun j hj => ?_⟩⟩, fun b off s e => by injection e with e; injection e with e _ _; omega⟩
    rw [Nat.zero_add, World.ownsRow.cellAt h j (by omega), List.getElem?_map, List.getElem?_eq_getElem hj, inAt_lt hj]; rfl
theorem own_slice {w : World} {base : Nat} {E : TypeId} {sz n : Nat} {v : Value} {xs : List Value} (h : w.ownsRow base E sz v n xs) : ∃ A c, v = .slice A n c := by
  rcases h.2 with ⟨rfl, rfl⟩ | ⟨g, cap, cur, rfl, _⟩
  · exact ⟨_, _, rfl⟩
  · exact ⟨_, _, rfl⟩

theorem grown1 (w : World) (g o : Nat) (v : Value) : w.grownBy (w.setCell ⟨g, o, none⟩ v) (some g) :=
  ⟨rfl, rfl, rfl, by simp [World.setCell], fun k hk hne => Below.heap_setCell _ ⟨g, o, none⟩ v k (fun e => hne (by rw [e]))⟩

set_option maxRecDepth 100000 in
set_option maxHeartbeats 8000000 in
theorem fAnswer (xs : List Pt) (A : Option Addr) (n c : Nat) (w : World) (h : PsAt w (.slice A n c) xs) (hl : xs.length ≤ 100000) (hl2 : ∀ x ∈ xs, x.l.length ≤ 1000000) :
    Calls Try.prog 27 #[.slice A n c, .bool true] w fun e w' => ∃ b, e = .returned (.tuple #[.slice (some ⟨b, 0, none⟩) xs.length xs.length, .int .i64 0]) ∧ FmAt w' (.slice (some ⟨b, 0, none⟩) xs.length xs.length) (fmOf xs) ∧ Below w.heap.size w w' := by
  have HI := Lib.hid h
  obtain ⟨hm, hm2, hm3⟩ := h.max
  obtain rfl := h.len
  have HL2 := Lib.hid hl2
  have hmk := make_form xs.length (by omega)
  have hB0 : Below w.heap.size w (w.alloc (.cells (madeCells #[.slice none 0 0] xs.length) 34)) := (Below.refl _ _).alloc (Nat.le_refl _) _
  have hA0 : At (w.alloc (.cells (madeCells #[.slice none 0 0] xs.length) 34)) w.heap.size 34 (madeCells #[.slice none 0 0] xs.length) := At.new _ _ _
  have hms : (madeCells #[Value.slice none 0 0] xs.length).size = xs.length := by simp [madeCells]
  clear h hl2
  go_enter Try.func27, Try.ntmps27
  go_wp2_with fail
  clear hmk
  generalize w.alloc (.cells (madeCells #[.slice none 0 0] xs.length) 34) = W at hB0 hA0 ⊢
  generalize madeCells #[Value.slice none 0 0] xs.length = cs0 at hA0 hms
  have HB0 := Lib.hid hB0
  have HA0 := Lib.hid hA0
  have HMs := Lib.hid hms
  obtain ⟨g, hgd⟩ : ∃ g, g = w.heap.size := ⟨_, rfl⟩
  have hgd2 := Lib.hid hgd
  clear hB0 hA0 hms
  rw [← hgd] at HA0 ⊢
  clear hgd
  go_loopw [16] (fun v wr => ∃ (i : Nat), i ≤ xs.length ∧ v = .int .i64 i ∧ Hid (Below w.heap.size w wr) ∧ Hid (∃ cs, At wr g 34 cs ∧ cs.size = xs.length ∧ ∀ j (h : j < xs.length), j < i → ∃ u, cs[j]? = some u ∧ PtOk wr (fun b => b = g) ⟨u, xs[j].m, xs[j].l⟩)) (fun v _ => xs.length - (intOf v).toNat)
  case atStart => exact ⟨0, Nat.zero_le _, rfl, HB0, Lib.hid ⟨cs0, HA0.out, HMs.out, fun j h h0 => absurd h0 (Nat.not_lt_zero _)⟩⟩
  case round =>
    obtain ⟨i, hi, rfl, HB, HT⟩ := hrel
    by_cases hlt : i < xs.length
    · have h1 : (0 : Int) ≤ (i : Int) := by omega
      have h2 : (i : Int) < (xs.length : Int) := by omega
      obtain ⟨gx, x, rfl, _, hx, q0, q1, hxo⟩ := (HI.out.next HB.out).at i hlt
      have HX := Lib.hid hxo
      have HXi := Lib.hid hx
      have HXm : Hid (x ∈ xs) := Lib.hid (by rw [← (List.getElem?_eq_some_iff.1 hx).2]; exact List.getElem_mem hlt)
      obtain ⟨Ax, cx, hv, _⟩ := hxo.1
      obtain ⟨xv, hxv⟩ : ∃ xv, x.v = xv := ⟨_, rfl⟩
      rw [hxv] at hv q0
      subst hv
      have HXv := Lib.hid hxv
      clear hxo hx hxv
      obtain ⟨cs, k1, k2, k3⟩ := HT.out
      have hgl := k1.lt
      have hb1 : Below wr.heap.size wr ((wr.alloc (.cells #[.slice Ax x.l.length cx, .int .u64 x.m] 50)).alloc (.cells #[] 3)) := ((Below.refl _ _).alloc (Nat.le_refl _) _).alloc (by simp) _
      have hsrc : Src ((wr.alloc (.cells #[.slice Ax x.l.length cx, .int .u64 x.m] 50)).alloc (.cells #[] 3)) 1 (.slice Ax x.l.length cx) x.l.length (x.l.map (Value.int .i64)) := by
        have := (HX.out.ints.next hb1).src
        rwa [HXv.out] at this
      obtain ⟨ti, hti, htz, hts, htb⟩ := info_parts info_int1
      have hes : (wr.alloc (.cells #[.slice Ax x.l.length cx, .int .u64 x.m] 50)).heap.size = wr.heap.size + 1 := by simp
      have hemp : ((wr.alloc (.cells #[.slice Ax x.l.length cx, .int .u64 x.m] 50)).alloc (.cells #[] 3)).ownsRow (wr.heap.size + 1) 3 1 (.slice (some ⟨wr.heap.size + 1, 0, none⟩) 0 0) 0 [] := by
        have := World.ownsRow_made (e := 3) (base := wr.heap.size + 1) (size := 1) (wr.alloc (.cells #[.slice Ax x.l.length cx, .int .u64 x.m] 50)) #[] 0 (by rw [hes]; exact Nat.le_refl _) (by decide) rfl
        rwa [hes] at this
      obtain ⟨v6, w6, hr6, o1, o2, o3⟩ := append_src (T := 34) (E := 3) Try.underlying34 hti htz hts htb rfl (by decide) (by decide) _ (wr.heap.size + 1) _ 0 [] _ x.l.length _ 34 hemp (by simp) hsrc (by have := HL2.out x HXm.out; omega)
      rw [Nat.zero_add, List.nil_append] at o1
      obtain ⟨A6, c6, rfl, o4, o5⟩ := own_ints o1 (fun y hy => by have := HX.out.2.1.2 y hy; unfold IsI; omega)
      have hb6 : Below wr.heap.size wr w6 := below_gr hb1 (by simp; omega) o2 (fun k e => by have e : some (wr.heap.size + 1) = some k := e; injection e with e; omega)
      have k1' := k1.below hb6 k1.lt
      have hpt : PtOk w6 (fun b => b = g) ⟨.slice A6 x.l.length c6, x.m, x.l⟩ := ints_ptok o4 (fun b off s e h => by have := o5 b off s e; omega) HX.out.2.1.1 HX.out.2.1.2 HX.out.2.2
      obtain ⟨old, u0⟩ : ∃ old, w6.cell? ⟨g, i, none⟩ = some old := ⟨_, (k1'.cell i).trans (Array.getElem?_eq_getElem (by omega))⟩
      have f0 := k1'.free i
      have HR6 := Lib.hid hr6
      have HB6 := Lib.hid hb6
      have HPt := Lib.hid hpt
      have K1 := Lib.hid k1'
      have K2 := Lib.hid k2
      have K3 := Lib.hid k3
      have HG := Lib.hid hgl
      have Hes := Lib.hid hes
      clear k1 k1' k2 k3 hr6 hb6 hb1 hsrc hemp o1 o2 o3 o4 o5 hpt hti htz hts htb hes
      go_wp2_with (first | (at_builtin; refine Lib.wpList_append_run _ rfl _ _ _ _ rfl _ _ rfl rfl (.slice A6 x.l.length c6) w6 HR6.out ?_) | fail)
      have hg1 := grown1 w6 g i (.slice A6 x.l.length c6)
      have hgw : w.heap.size ≤ g := by rw [hgd2.out]; exact Nat.le_refl _
      refine ⟨⟨i + 1, by omega, by go_num, Lib.hid ((HB.out.trans (HB6.out.mono HB.out.size)).setCell (p := ⟨g, i, none⟩) hgw _), Lib.hid ⟨_, K1.out.set i _, by rw [Array.size_setIfInBounds]; exact K2.out, fun j hj hji => ?_⟩⟩, by simp [intOf]; omega⟩
      by_cases e : j = i
      · subst e
        have e2 : xs[j] = x := (List.getElem?_eq_some_iff.1 HXi.out).2
        refine ⟨_, Array.getElem?_setIfInBounds_self_of_lt (by rw [K2.out]; exact hj), ?_⟩
        rw [e2]
        exact HPt.out.grown hg1 (fun k e => by injection e with e; exact e.symm)
      · obtain ⟨u, hu, hp⟩ := K3.out j hj (by omega)
        refine ⟨u, by rw [Array.getElem?_setIfInBounds_ne (fun h => e h.symm)]; exact hu, ?_⟩
        exact ((hp.below HB6.out).grown hg1 (fun k e => by injection e with e; exact e.symm))
    · obtain rfl : i = xs.length := by omega
      go_wp2_with fail
      obtain ⟨cs, k1, k2, k3⟩ := HT.out
      have hlf : (fmOf xs).length = xs.length := by simp [fmOf]
      refine bodyPost_ret (v := .tuple #[.slice (some ⟨g, 0, none⟩) xs.length xs.length, .int .i64 0]) (by simp [results, Try.results27, go_sem]) rfl ⟨g, rfl, ⟨_, _, by rw [hlf], by rw [hlf]; exact Nat.le_refl _, by omega, fun _ => ⟨g, 0, rfl, k1.lt, fun j hj => ?_⟩⟩, HB.out⟩
      rw [hlf] at hj
      obtain ⟨u, hu, hp⟩ := k3 j hj hj
      refine ⟨u, by rw [Nat.zero_add, k1.cell j]; exact hu, ?_⟩
      have : paAt (fmOf xs) j = xs[j].l := by rw [paAt_lt (by rw [hlf]; exact hj)]; simp [fmOf]
      rw [this]
      exact hp.ints

end Go.Proofs.Ytehokjaojanieaa
