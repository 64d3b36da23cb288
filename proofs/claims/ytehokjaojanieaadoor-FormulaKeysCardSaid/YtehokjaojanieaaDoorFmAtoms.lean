/- bolterref09.Atoms: all numbers of formulas, rising. -/
import Derived.Test.YtehokjaojanieaaDoorFmMake
namespace Go.Proofs.YtehokjaojanieaaDoor
open Go.RowKit
set_option linter.unusedVariables false
set_option linter.unusedSimpArgs false

/-- Formulas in a row. -/
def fsAt (fs : List Fm) (j : Nat) : Fm := (fs[j]?).getD []
theorem fsAt_lt {f : List Fm} {j : Nat} (h : j < f.length) : fsAt f j = f[j] := by unfold fsAt; rw [List.getElem?_eq_getElem h]; rfl
def FsAt (w : World) (v : Value) (fs : List Fm) : Prop :=
  ∃ A c, v = .slice A fs.length c ∧ fs.length ≤ c ∧ c ≤ 9223372036854775807 ∧ (0 < fs.length → ∃ b off, A = some ⟨b, off, none⟩ ∧ b < w.heap.size ∧ ∀ j, j < fs.length → ∃ u, w.cell? ⟨b, off + j, none⟩ = some u ∧ FmAt w u (fsAt fs j))
theorem FsAt.next {w w' : World} {v : Value} {f : List Fm} (h : FsAt w v f) (hb : Below w.heap.size w w') : FsAt w' v f := by
  obtain ⟨A, c, h1, h2, h3, h5⟩ := h
  refine ⟨A, c, h1, h2, h3, fun h0 => ?_⟩
  obtain ⟨b, off, e, hlt, hr⟩ := h5 h0
  refine ⟨b, off, e, Nat.lt_of_lt_of_le hlt hb.size, fun j hj => ?_⟩
  obtain ⟨u, hu, hi⟩ := hr j hj
  exact ⟨u, ((bcell hb).1 b _ hlt).trans hu, hi.next hb⟩
theorem FsAt.at {w : World} {f : List Fm} {A : Option Addr} {n c : Nat} (h : FsAt w (.slice A n c) f) (j : Nat) (hj : j < f.length) : ∃ b off A2 c2, A = some ⟨b, off, none⟩ ∧ b < w.heap.size ∧ w.cell? ⟨b, off + j, none⟩ = some (.slice A2 (fsAt f j).length c2) ∧ FmAt w (.slice A2 (fsAt f j).length c2) (fsAt f j) := by
  obtain ⟨A', c', h1, _, _, h5⟩ := h
  injection h1 with e1 _ _
  subst e1
  obtain ⟨b, off, e, hlt, hr⟩ := h5 (by omega)
  obtain ⟨u, hu, hi⟩ := hr j hj
  obtain ⟨A2, c2, rfl, r⟩ := id hi
  exact ⟨b, off, A2, c2, e, hlt, hu, hi⟩
theorem FsAt.len {w : World} {f : List Fm} {A : Option Addr} {n c : Nat} (h : FsAt w (.slice A n c) f) : n = f.length := by obtain ⟨A', c', h1, _⟩ := h; injection h1
theorem FsAt.max {w : World} {f : List Fm} {A : Option Addr} {n c : Nat} (h : FsAt w (.slice A n c) f) : f.length ≤ 9223372036854775807 := by obtain ⟨A', c', h1, h2, h3, _⟩ := h; omega
def insN (z : List Int) (y : Int) : List Int := z.takeWhile (fun x => decide (x < y)) ++ y :: z.dropWhile (fun x => decide (x < y))
def addN (z : List Int) (y : Int) : List Int := if hasS z y then z else insN z y
/-- All numbers of formulas, rising. -/
def atomsS (fs : List Fm) : List Int := fs.flatten.flatten.foldl addN []
theorem twn_take (f : List Int) (g : Int → Bool) : f.takeWhile g = f.take (f.takeWhile g).length ∧ f.dropWhile g = f.drop (f.takeWhile g).length := by
  induction f with
  | nil => exact ⟨rfl, rfl⟩
  | cons x f ih =>
    cases hg : g x
    · simp [List.takeWhile_cons, List.dropWhile_cons, hg]
    · simp only [List.takeWhile_cons, List.dropWhile_cons, hg, if_true, List.length_cons, List.take_succ_cons, List.drop_succ_cons]
      exact ⟨by rw [← ih.1], ih.2⟩
theorem twn_yes {f : List Int} {g : Int → Bool} {k : Nat} (h : k < (f.takeWhile g).length) : g (inAt f k) = true := by
  have : ∀ (f : List Int) (k : Nat), k < (f.takeWhile g).length → g (inAt f k) = true := by
    intro f
    induction f with
    | nil => intro k hk; simp at hk
    | cons y f ih =>
      intro k hk
      cases hg : g y
      · simp [List.takeWhile_cons, hg] at hk
      · cases k with
        | zero => exact hg
        | succ k =>
          simp only [List.takeWhile_cons, hg, if_true, List.length_cons] at hk
          exact ih k (by omega)
  exact this f k h
theorem twn_no {f : List Int} {g : Int → Bool} (h : (f.takeWhile g).length < f.length) : g (inAt f (f.takeWhile g).length) = false := by
  have : ∀ (f : List Int), (f.takeWhile g).length < f.length → g (inAt f (f.takeWhile g).length) = false := by
    intro f
    induction f with
    | nil => intro h; simp at h
    | cons y f ih =>
      intro h
      cases hg : g y
      · simp only [List.takeWhile_cons, hg]; exact hg
      · simp only [List.takeWhile_cons, hg, if_true, List.length_cons] at h ⊢
        exact ih (by omega)
  exact this f h
theorem twn_le (f : List Int) (g : Int → Bool) : (f.takeWhile g).length ≤ f.length := (List.takeWhile_sublist _).length_le
theorem addN_le (z : List Int) (y : Int) : (addN z y).length ≤ z.length + 1 := by
  unfold addN
  split
  · omega
  · unfold insN
    have h1 := (twn_take z (fun x => decide (x < y))).2
    have h2 := twn_le z (fun x => decide (x < y))
    rw [List.length_append, List.length_cons, h1, List.length_drop]
    omega
theorem fold_le (l : List Int) : ∀ z : List Int, (l.foldl addN z).length ≤ z.length + l.length := by
  induction l with
  | nil => intro z; simp
  | cons x l ih =>
    intro z
    have h1 := ih (addN z x)
    have h2 := addN_le z x
    rw [List.foldl_cons, List.length_cons]
    omega
theorem flat_take {α : Type} (l : List (List α)) (i : Nat) (h : i < l.length) : (l.take (i + 1)).flatten = (l.take i).flatten ++ l[i] := by
  rw [take_step l i h, List.flatten_append]; simp
theorem vals_ints {w : World} {v : Value} {z : List Int} (h : ValsAt w v (z.map (Value.int .i64))) (hz : ∀ x ∈ z, IsI x) : IntsAt w v z := by
  obtain ⟨A, c, rfl, _, h3, h4⟩ := h
  rw [List.length_map] at h3
  refine ⟨A, c, by rw [List.length_map], h3.1, h3.2, hz, fun h0 => ?_⟩
  obtain ⟨b, off, e, hlt, hr⟩ := h4 (by rw [List.length_map]; exact h0)
  exact ⟨b, off, e, hlt, fun j hj => by rw [hr j (by rw [List.length_map]; exact hj), List.getElem_map, inAt_lt hj]⟩

/-- Numbers that rise, in a row that is never written again. -/
def ZAt (w : World) (u : Value) (z : List Int) : Prop := ValsAt w u (z.map (Value.int .i64)) ∧ (∀ x ∈ z, IsI x) ∧ (z = [] → u = .slice none 0 0)
theorem ZAt.nil (w : World) : ZAt w (.slice none 0 0) [] := ⟨ValsAt.nil _, (fun x hx => by cases hx), fun _ => rfl⟩
theorem ZAt.next {w w' : World} {u : Value} {z : List Int} (h : ZAt w u z) (hb : Below w.heap.size w w') : ZAt w' u z := ⟨h.1.next hb, h.2⟩
theorem ZAt.ints {w : World} {u : Value} {z : List Int} (h : ZAt w u z) : IntsAt w u z := vals_ints h.1 h.2.1
theorem insN_mem {z : List Int} {y x : Int} (h : x ∈ insN z y) : x = y ∨ x ∈ z := by
  unfold insN at h
  rcases List.mem_append.1 h with h | h
  · exact Or.inr ((List.takeWhile_sublist _).subset h)
  · rcases List.mem_cons.1 h with h | h
    · exact Or.inl h
    · exact Or.inr ((List.dropWhile_sublist _).subset h)
theorem flat_len {α : Type} (l : List (List α)) (i : Nat) (h : i < l.length) : l.flatten.length = (l.take i).flatten.length + l[i].length + (l.drop (i + 1)).flatten.length := by
  have e : l = l.take i ++ l[i] :: l.drop (i + 1) := by rw [← List.drop_eq_getElem_cons h, List.take_append_drop]
  have := congrArg (fun x : List (List α) => x.flatten.length) e
  simp only [List.flatten_append, List.flatten_cons, List.length_append] at this
  omega
theorem flat2_len {α : Type} (l : List (List (List α))) (i : Nat) (h : i < l.length) : l.flatten.flatten.length = (l.take i).flatten.flatten.length + l[i].flatten.length + (l.drop (i + 1)).flatten.flatten.length := by
  have e : l = l.take i ++ l[i] :: l.drop (i + 1) := by rw [← List.drop_eq_getElem_cons h, List.take_append_drop]
  have := congrArg (fun x : List (List (List α)) => x.flatten.flatten.length) e
  simp only [List.flatten_append, List.flatten_cons, List.length_append] at this
  omega

theorem zat_ins {w : World} {u : Value} {z : List Int} {y : Int} (k : Nat) (h1 : addN z y = insN z y) (h2 : insN z y = z.take k ++ y :: z.drop k) (h3 : ValsAt w u ((z.map (Value.int .i64)).take k ++ [.int .i64 y] ++ (z.map (Value.int .i64)).drop k)) (hz : ∀ x ∈ z, IsI x) (hy : IsI y) : ZAt w u (addN z y) := by
  refine ⟨?_, fun x hx => ?_, fun e => ?_⟩
  · rw [h1, h2]
    have e : (z.take k ++ y :: z.drop k).map (Value.int .i64) = (z.map (Value.int .i64)).take k ++ [.int .i64 y] ++ (z.map (Value.int .i64)).drop k := by simp [List.map_take, List.map_drop]
    rw [e]; exact h3
  · rw [h1] at hx
    rcases insN_mem hx with rfl | hx
    · exact hy
    · exact hz x hx
  · rw [h1, h2] at e; simp at e
theorem ints_one (z : List Int) (u : Value) (h : u ∈ z.map (Value.int .i64)) : u.oneCell' = true := by obtain ⟨x, _, rfl⟩ := List.mem_map.1 h; rfl

set_option maxRecDepth 100000 in
set_option maxHeartbeats 32000000 in
theorem refAtoms (fs : List Fm) (A : Option Addr) (n c : Nat) (w : World) (h : FsAt w (.slice A n c) fs) (hl : fs.flatten.flatten.length ≤ 1000000) :
    Calls Tryd.prog 14 #[.slice A n c] w fun e w' => ∃ v, e = .returned v ∧ ZAt w' v (atomsS fs) ∧ Below w.heap.size w w' := by
  have HI := Lib.hid h
  have hm := h.max
  obtain rfl := h.len
  have HL := Lib.hid hl
  clear h hl
  obtain ⟨i0, hi0, hz0, hz1, hz2⟩ := info_parts info_ints
  go_enter Tryd.func14, Tryd.ntmps14
  go_wp2_with fail
  go_loopw [3, 11] (fun u v wr => ∃ (j : Nat) (z : List Int), j ≤ fs.length ∧ v = .int .i64 j ∧ z = ((fs.take j).flatten.flatten).foldl addN [] ∧ Hid (ZAt wr u z) ∧ Hid (Below w.heap.size w wr)) (fun _ v _ => fs.length - (intOf v).toNat)
  case atStart => exact ⟨0, [], Nat.zero_le _, rfl, rfl, Lib.hid (ZAt.nil _), Lib.hid (Below.refl _ _)⟩
  case round =>
    obtain ⟨i1, z0, hi1, rfl, hz0e, HV, HB⟩ := hrel
    by_cases hlt1 : i1 < fs.length
    · have h11 : (0 : Int) ≤ (i1 : Int) := by omega
      have h12 : (i1 : Int) < (fs.length : Int) := by omega
      have HIr := Lib.hid (HI.out.next HB.out)
      obtain ⟨b1, o1, A1, c1, rfl, hb1, q1, hp1⟩ := HIr.out.at i1 hlt1
      have HBl1 := Lib.hid hb1
      have HZ0 : Hid (z0 = ((fs.take i1).flatten.flatten).foldl addN []) := Lib.hid hz0e
      have HE1 := Lib.hid (flat_take fs i1 hlt1)
      have hc1 := flat2_len fs i1 hlt1
      rw [← fsAt_lt hlt1] at hc1
      rw [← fsAt_lt hlt1] at HE1
      obtain ⟨f, hfe⟩ : ∃ f, fsAt fs i1 = f := ⟨_, rfl⟩
      rw [hfe] at q1 hp1 HE1 hc1
      have HC1 := Lib.hid hc1
      have HP1 := Lib.hid hp1
      have hfm := hp1.max
      clear hp1 hfe hz0e hb1 hc1
      go_wp2_with fail
      obtain ⟨wo, hwo⟩ : ∃ wo : World, wo = wr := ⟨_, rfl⟩
      rw [← hwo] at HV HB HIr HP1 q1 HBl1 ⊢
      clear hwo
      go_loopw [3, 19] (fun u v wr => ∃ (k : Nat) (z : List Int), k ≤ f.length ∧ v = .int .i64 k ∧ z = ((f.take k).flatten).foldl addN z0 ∧ Hid (ZAt wr u z) ∧ Hid (Below wo.heap.size wo wr)) (fun _ v _ => f.length - (intOf v).toNat)
      case atStart => exact ⟨0, z0, Nat.zero_le _, rfl, rfl, HV, Lib.hid (Below.refl _ _)⟩
      case round =>
        clear HV
        obtain ⟨i2, z1, hi2, rfl, hz1e, HV, HB2⟩ := hrel
        by_cases hlt2 : i2 < f.length
        · have h21 : (0 : Int) ≤ (i2 : Int) := by omega
          have h22 : (i2 : Int) < (f.length : Int) := by omega
          have q1b := ((bcell HB2.out).1 b1 _ HBl1.out).trans q1
          have HP1b := Lib.hid (HP1.out.next HB2.out)
          obtain ⟨b2, o2, A2, c2, rfl, hb2, q2, hp2⟩ := HP1b.out.at i2 hlt2
          have HBl2 := Lib.hid hb2
          have HZ1 : Hid (z1 = ((f.take i2).flatten).foldl addN z0) := Lib.hid hz1e
          have HE2 := Lib.hid (flat_take f i2 hlt2)
          have hc2 := flat_len f i2 hlt2
          rw [← paAt_lt hlt2] at hc2
          rw [← paAt_lt hlt2] at HE2
          obtain ⟨p, hpe⟩ : ∃ p, paAt f i2 = p := ⟨_, rfl⟩
          rw [hpe] at q2 hp2 HE2 hc2
          have HC2 := Lib.hid hc2
          have HP2 := Lib.hid hp2
          have hpm := hp2.max
          have HB02 := Lib.hid (HB.out.trans (HB2.out.mono HB.out.size))
          have hbb1 : b1 < wr.heap.size := Nat.lt_of_lt_of_le HBl1.out HB2.out.size
          have HBl1b := Lib.hid hbb1
          clear hp2 hpe hz1e hb2 hbb1 hc2
          go_wp2_with fail
          obtain ⟨wi, hwi⟩ : ∃ wi : World, wi = wr := ⟨_, rfl⟩
          rw [← hwi] at HV HB2 HB02 HP2 q2 q1b HBl2 HBl1b HP1b ⊢
          clear hwi
          go_loopw [3, 30] (fun u v wr => ∃ (j : Nat) (z : List Int), j ≤ p.length ∧ v = .int .i64 j ∧ z = (p.take j).foldl addN z1 ∧ Hid (ZAt wr u z) ∧ Hid (Below w.heap.size w wr ∧ Below wi.heap.size wi wr)) (fun _ v _ => p.length - (intOf v).toNat)
          case atStart => exact ⟨0, z1, Nat.zero_le _, rfl, rfl, HV, Lib.hid ⟨HB02.out, Below.refl _ _⟩⟩
          case round =>
            clear HV
            obtain ⟨j, z, hj, rfl, hze, HV, HB3⟩ := hrel
            by_cases hlt3 : j < p.length
            · have h31 : (0 : Int) ≤ (j : Int) := by omega
              have h32 : (j : Int) < (p.length : Int) := by omega
              have q1c := ((bcell HB3.out.2).1 b1 _ HBl1b.out).trans q1b
              have q2c := ((bcell HB3.out.2).1 b2 _ HBl2.out).trans q2
              obtain ⟨b3, o3, rfl, _, q3⟩ := (HP2.out.next HB3.out.2).at j hlt3
              have hstep := take_step p j hlt3
              rw [← inAt_lt hlt3] at hstep
              obtain ⟨y, hy⟩ : ∃ y, inAt p j = y := ⟨_, rfl⟩
              rw [hy] at q3 hstep
              have HJn : Hid (addN z y = (p.take (j + 1)).foldl addN z1) := Lib.hid (by rw [hstep, List.foldl_append, ← hze]; rfl)
              have HYi : Hid (IsI y) := Lib.hid (by obtain ⟨_, _, _, _, _, hz, _⟩ := HP2.out; rw [← hy, inAt_lt hlt3]; exact hz _ (List.getElem_mem _))
              have hzl : z.length ≤ 1000000 := by
                have a1 := fold_le (p.take j) z1
                have a2 := fold_le ((f.take i2).flatten) z0
                have a3 := fold_le ((fs.take i1).flatten.flatten) []
                rw [← hze, List.length_take] at a1
                rw [← HZ1.out] at a2
                rw [← HZ0.out] at a3
                have a4 := HC1.out
                have a5 := HC2.out
                have a6 := HL.out
                simp only [List.length_nil] at a3
                omega
              have hz63 : z.length ≤ 9223372036854775807 := by omega
              clear hstep hy hze
              obtain ⟨hv3, hzi, hvn⟩ := HV.out
              obtain ⟨Au, cu, rfl, _⟩ := id hv3
              rw [List.length_map] at hv3 hvn ⊢
              have HV3 := Lib.hid hv3
              have HZi := Lib.hid hzi
              have HVn := Lib.hid hvn
              have HB3w := Lib.hid HB3.out.1
              clear hv3 hzi hvn
              go_wp2_with fail
              refine (refHas9 z y Au z.length cu _ (vals_ints HV3.out HZi.out)).mono ?_
              rintro e w4 ⟨rfl, rfl⟩
              obtain ⟨hb, hbe⟩ : ∃ b, hasS z y = b := ⟨_, rfl⟩
              rw [hbe]
              have HBe := Lib.hid hbe
              clear hbe
              cases hb
              · have HAdd : Hid (addN z y = insN z y) := Lib.hid (by unfold addN; rw [HBe.out]; rfl)
                have htl := twn_le z (fun x => decide (x < y))
                obtain ⟨t, hte⟩ : ∃ t, (z.takeWhile (fun x => decide (x < y))).length = t := ⟨_, rfl⟩
                have hty : ∀ k, k < t → inAt z k < y := fun k hk => of_decide_eq_true (twn_yes (g := fun x => decide (x < y)) (by rw [hte]; exact hk))
                have htn : t < z.length → ¬ inAt z t < y := fun h => by have := twn_no (g := fun x => decide (x < y)) (f := z) (by rw [hte]; exact h); rw [hte] at this; exact of_decide_eq_false this
                have hins : insN z y = z.take t ++ y :: z.drop t := by unfold insN; rw [(twn_take z (fun x => decide (x < y))).1, (twn_take z (fun x => decide (x < y))).2, hte]
                rw [hte] at htl
                have HTy := Lib.hid hty
                have HTn := Lib.hid htn
                have HIns := Lib.hid hins
                clear hty htn hins hte
                go_wp2_with fail
                obtain ⟨wz, hwz⟩ : ∃ wz : World, wz = w4 := ⟨_, rfl⟩
                rw [← hwz] at HV3 HB3 HB3w ⊢
                clear hwz q1c q2c q3
                go_loopw [8] (fun v wr => ∃ k : Nat, k ≤ t ∧ v = .int .i64 k ∧ wz = wr) (fun v _ => t - (intOf v).toNat)
                case atStart => exact ⟨0, Nat.zero_le _, rfl, by first | rfl | trivial⟩
                case round =>
                  obtain ⟨k, hk, rfl, rfl⟩ := hrel
                  have h41 : (0 : Int) ≤ (k : Int) := by omega
                  by_cases hkf : k < z.length
                  · have h42 : (k : Int) < (z.length : Int) := by omega
                    have h43 : decide (k < z.length) = true := decide_eq_true hkf
                    obtain ⟨b6, o6, rfl, _, q6⟩ := (vals_ints HV3.out HZi.out).at k hkf
                    obtain ⟨x, hx⟩ : ∃ x, inAt z k = x := ⟨_, rfl⟩
                    rw [hx] at q6
                    have HX := Lib.hid hx
                    clear hx
                    by_cases hxy : x < y
                    · have hkt : k < t := by
                        by_cases hc : k < t
                        · exact hc
                        · have e : k = t := by omega
                          have := HTn.out (by omega)
                          rw [← e, HX.out] at this; omega
                      have hxy1 : decide (x < y) = true := decide_eq_true hxy
                      go_wp2_with fail
                      refine ⟨⟨k + 1, by omega, by go_num, by first | rfl | trivial⟩, by simp [intOf]; omega⟩
                    · have hkt : k = t := by
                        by_cases hc : k < t
                        · have := HTy.out k hc
                          rw [HX.out] at this; omega
                        · omega
                      have hxy1 : decide (x < y) = false := decide_eq_false hxy
                      subst hkt
                      have hcu := HV3.out.cap
                      rw [List.length_map] at hcu
                      have hck0 : k ≤ z.length := by omega
                      have hkn : (k : Int) ≤ (z.length : Int) := by omega
                      have hkc : (k : Int) ≤ (cu : Int) := by omega
                      have hcz : (z.length : Int) ≤ (cu : Int) := by omega
                      have hck : ¬ cu = k := by omega
                      have hck2 : ¬ k = cu := by omega
                      go_wp2_with fail
                      obtain ⟨ws, hws⟩ : ∃ ws, ws = wz := ⟨_, rfl⟩
                      have HBs : Hid (Below w.heap.size w ws ∧ Below wi.heap.size wi ws) := Lib.hid (by rw [hws]; exact HB3.out)
                      have HVs : Hid (ValsAt ws (.slice (some ⟨b6, o6, none⟩) z.length cu) (z.map (Value.int .i64))) := Lib.hid (by rw [hws]; have h := HV3.out; exact h)
                      rw [← hws]
                      clear hws
                      refine wp_region_noPanic ?_
                      refine wp_region_held_drew (S := (fun _ => True)) (by kernel_rfl) (by trivial) (fun hHeld => ?_)
                      have hB : Below ws.heap.size ws ws.drew := (Below.refl _ _).drew
                      refine wpAnyH_take (i := 1) (oi := ⟨some 61, _, _, _, _, _⟩) (v := ?_) rfl (by kernel_rfl) (by kernel_rfl) (by kernel_rfl) (fun _ _ _ h => h) (Or.inl ⟨by rfl, ?_⟩) (by exact hHeld) ?_
                      rotate_left
                      · (intro w hSw; (try dsimp only at hSw); go_simp; try (with_reducible rfl))
                      simp only [Act.put, List.setIfInBounds_toArray, List.set_cons_zero, List.set_cons_succ]
                      refine wpAnyH_take (i := 2) (oi := ⟨some 62, _, _, _, _, _⟩) (v := ?_) rfl (by kernel_rfl) (by kernel_rfl) (by kernel_rfl) (fun _ _ _ h => h) (Or.inl ⟨by rfl, ?_⟩) (by exact hHeld) ?_
                      rotate_left
                      · (intro w hSw; (try dsimp only at hSw); go_simp; try (with_reducible rfl))
                      simp only [Act.put, List.setIfInBounds_toArray, List.set_cons_zero, List.set_cons_succ]
                      refine wpAnyH_take (i := 3) (oi := ⟨some 63, _, _, _, _, _⟩) (v := ?_) rfl (by kernel_rfl) (by kernel_rfl) (by kernel_rfl) (fun _ _ _ h => h) (Or.inl ⟨by rfl, ?_⟩) (by exact hHeld) ?_
                      rotate_left
                      · (intro w hSw; (try dsimp only at hSw); go_simp; try (with_reducible rfl))
                      simp only [Act.put, List.setIfInBounds_toArray, List.set_cons_zero, List.set_cons_succ]
                      refine wpAnyH_take (i := 5) (oi := ⟨some 65, _, _, _, _, _⟩) (v := ?_) rfl (by kernel_rfl) (by kernel_rfl) (by kernel_rfl) (fun _ _ _ h => h) (Or.inl ⟨by rfl, ?_⟩) (by exact hHeld) ?_
                      rotate_left
                      · (intro w hSw; (try dsimp only at hSw); go_simp; try (with_reducible rfl))
                      simp only [Act.put, List.setIfInBounds_toArray, List.set_cons_zero, List.set_cons_succ]
                      refine wpAnyH_take (i := 8) (oi := ⟨some 68, _, _, _, _, _⟩) (v := ?_) rfl (by kernel_rfl) (by kernel_rfl) (by kernel_rfl) (fun _ _ _ h => h) (Or.inl ⟨by rfl, ?_⟩) (by exact hHeld) ?_
                      rotate_left
                      · (intro w hSw; (try dsimp only at hSw); go_simp; try (with_reducible rfl))
                      simp only [Act.put, List.setIfInBounds_toArray, List.set_cons_zero, List.set_cons_succ]
                      refine wpAnyH_take (i := 9) (oi := ⟨some 69, _, _, _, _, _⟩) (v := ?_) rfl (by kernel_rfl) (by kernel_rfl) (by kernel_rfl) (fun _ _ _ h => h) (Or.inl ⟨by rfl, ?_⟩) (by exact hHeld) ?_
                      rotate_left
                      · (intro w hSw; (try dsimp only at hSw); go_simp; try (with_reducible rfl))
                      simp only [Act.put, List.setIfInBounds_toArray, List.set_cons_zero, List.set_cons_succ]
                      refine wpAnyH_take (i := 10) (oi := ⟨some 70, _, _, _, _, _⟩) (v := ?_) rfl (by kernel_rfl) (by kernel_rfl) (by kernel_rfl) (fun _ _ _ h => h) (Or.inl ⟨by rfl, ?_⟩) (by exact hHeld) ?_
                      rotate_left
                      · (intro w hSw; (try dsimp only at hSw); go_simp; try (with_reducible rfl))
                      simp only [Act.put, List.setIfInBounds_toArray, List.set_cons_zero, List.set_cons_succ]
                      refine wpAnyH_ready (rs := [0, 6]) (by kernel_rfl) (by simp) ?_
                      refine AllReadyH.cons (o := ⟨some 60, _, _, _, _, _⟩) rfl (fun K hK => ?_) ?_
                      · refine stepv_slice0 32 3 rfl rfl run_ints0 (fun g4 w3 h4 hb3 hg4 => ?_)
                        have hg4b : ws.heap.size ≤ g4 := Nat.le_trans hB.size hg4
                        try have hne : g8 ≠ g4 := by have := h8.lt; omega
                        try have h8 := h8.step hb3 rfl
                        have hB := hB.trans (hb3.mono hB.size)
                        clear hb3 hg4
                        try dsimp only
                        refine hK.out _ _ ?_ (fun hHeld => ?_)
                        · trivial
                        clear hK K
                        try simp only [Act.put, List.setIfInBounds_toArray, List.set_cons_zero, List.set_cons_succ]
                        refine wpAnyH_ready (rs := [4, 6]) (by kernel_rfl) (by simp) ?_
                        refine AllReadyH.cons (o := ⟨some 64, _, _, _, _, _⟩) rfl (fun K hK => ?_) ?_
                        · refine stepv_append rfl _ _ 32 rfl _ _ rfl rfl (append_vals (E := 3) Tryd.underlying32 hi0 hz0 hz1 hz2 rfl (by decide) _ ws.heap.size _ [] ((z.map (Value.int .i64)).take k) (some ⟨b6, o6, none⟩) k _ _ (VRow.empty h4 hg4b) hB.size ((HVs.out.next hB).take k (by rw [List.length_map]; omega)) (fun u hu => ints_one z u (List.mem_of_mem_take hu)) (by simp <;> omega)) ?_
                          rintro v6 w3 ⟨h6, hgr⟩
                          try have h8 := at_keep h8 hgr (fun q => hne (by injection q with q; exact q.symm))
                          have hB := below_gr hB hB.size hgr (fun q hq => by have e : g4 = q := Option.some.inj hq; omega)
                          clear hgr h4 hg4b
                          try clear hne
                          rw [List.nil_append] at h6
                          refine hK.out _ _ ?_ (fun hHeld => ?_)
                          · trivial
                          clear hK K
                          try simp only [Act.put, List.setIfInBounds_toArray, List.set_cons_zero, List.set_cons_succ]
                          refine wpAnyH_ready (rs := [6]) (by kernel_rfl) (by simp) ?_
                          refine AllReadyH.cons (o := ⟨some 66, _, _, _, _, _⟩) rfl (fun K hK => ?_) AllReadyH.nil
                          refine stepv_slice1 32 3 rfl _ (.int .i64 y) rfl rfl (run_ints1 _) (fun g8 w3 h8 hb3 hg8 => ?_)
                          try have hne : g8 ≠ g4 := by have := h4.lt; omega
                          try have h4 := h4.step hb3 rfl
                          try have h6 := h6.next hb3
                          have hB := hB.trans (hb3.mono hB.size)
                          clear hb3 hg8
                          try dsimp only
                          refine hK.out _ _ ?_ (fun hHeld => ?_)
                          · trivial
                          clear hK K
                          try simp only [Act.put, List.setIfInBounds_toArray, List.set_cons_zero, List.set_cons_succ]
                          refine wpAnyH_ready (rs := [7]) (by kernel_rfl) (by simp) ?_
                          refine AllReadyH.cons (o := ⟨some 67, _, _, _, _, _⟩) rfl (fun K hK => ?_) AllReadyH.nil
                          refine stepv_append rfl _ _ 32 rfl _ _ rfl rfl (append_vals (E := 3) Tryd.underlying32 hi0 hz0 hz1 hz2 rfl (by decide) _ ws.heap.size v6 _ [(.int .i64 y)] (some ⟨g8, 0, none⟩) 1 1 _ h6 hB.size (one_vals h8) (fun u hu => by rw [List.mem_singleton.1 hu]; rfl) (by simp <;> omega)) ?_
                          rintro v7 w3 ⟨h7, hgr⟩
                          have hrow := h6.low
                          have hB := below_gr hB hB.size hgr hrow
                          clear hgr h6 h8 hrow
                          refine hK.out _ _ ?_ (fun hHeld => ?_)
                          · trivial
                          clear hK K
                          try simp only [Act.put, List.setIfInBounds_toArray, List.set_cons_zero, List.set_cons_succ]
                          refine wpAnyH_ready (rs := [11]) (by kernel_rfl) (by simp) ?_
                          refine AllReadyH.cons (o := ⟨some 71, _, _, _, _, _⟩) rfl (fun K hK => ?_) AllReadyH.nil
                          refine stepv_append rfl _ _ 32 rfl _ _ rfl rfl (append_vals (E := 3) Tryd.underlying32 hi0 hz0 hz1 hz2 rfl (by decide) _ ws.heap.size v7 _ ((z.map (Value.int .i64)).drop k) (some ⟨b6, o6 + k, none⟩) _ _ _ h7 hB.size (by have h := (HVs.out.next hB).drop rfl k (cu - k) (by rw [List.length_map]; omega) rfl; rw [List.length_map] at h; exact h) (fun u hu => ints_one z u (List.mem_of_mem_drop hu)) (by simp <;> omega)) ?_
                          rintro v9 w3 ⟨h9, hgr⟩
                          have hrow := h7.low
                          have hB := below_gr hB hB.size hgr hrow
                          clear hgr h7 hrow
                          refine hK.out _ _ ?_ (fun hHeld => ?_)
                          · trivial
                          clear hK K
                          try simp only [Act.put, List.setIfInBounds_toArray, List.set_cons_zero, List.set_cons_succ]
                          refine wpAnyH_take (i := 12) (oi := ⟨some 3, _, _, _, _, _⟩) (v := ?_) rfl (by kernel_rfl) (by kernel_rfl) (by kernel_rfl) (fun _ _ _ h => h) (Or.inl ⟨by rfl, ?_⟩) (by exact hHeld) ?_
                          rotate_left
                          · (intro w hSw; (try dsimp only at hSw); go_simp; try (with_reducible rfl))
                          simp only [Act.put, List.setIfInBounds_toArray, List.set_cons_zero, List.set_cons_succ]
                          refine wpAnyH_done (by kernel_rfl) ?_ _
                          refine NoPanic.normal ?_
                          have HBf := Lib.hid (And.intro (HBs.out.1.trans (hB.mono HBs.out.1.size)) (HBs.out.2.trans (hB.mono HBs.out.2.size)))
                          have HVe := Lib.hid h9.vals
                          clear hB h9 hHeld
                          go_wp2_with fail
                          go_roundw
                          case rel => exact ⟨j + 1, addN z y, by omega, by go_num, HJn.out, Lib.hid (zat_ins k HAdd.out HIns.out HVe.out HZi.out HYi.out), HBf⟩
                          case measure => simp [intOf]; omega
                        refine AllReadyH.cons (o := ⟨some 66, _, _, _, _, _⟩) rfl (fun K hK => ?_) AllReadyH.nil
                        · refine stepv_slice1 32 3 rfl _ (.int .i64 y) rfl rfl (run_ints1 _) (fun g8 w3 h8 hb3 hg8 => ?_)
                          try have hne : g8 ≠ g4 := by have := h4.lt; omega
                          try have h4 := h4.step hb3 rfl
                          try have h6 := h6.next hb3
                          have hB := hB.trans (hb3.mono hB.size)
                          clear hb3 hg8
                          try dsimp only
                          refine hK.out _ _ ?_ (fun hHeld => ?_)
                          · trivial
                          clear hK K
                          try simp only [Act.put, List.setIfInBounds_toArray, List.set_cons_zero, List.set_cons_succ]
                          refine wpAnyH_ready (rs := [4]) (by kernel_rfl) (by simp) ?_
                          refine AllReadyH.cons (o := ⟨some 64, _, _, _, _, _⟩) rfl (fun K hK => ?_) AllReadyH.nil
                          refine stepv_append rfl _ _ 32 rfl _ _ rfl rfl (append_vals (E := 3) Tryd.underlying32 hi0 hz0 hz1 hz2 rfl (by decide) _ ws.heap.size _ [] ((z.map (Value.int .i64)).take k) (some ⟨b6, o6, none⟩) k _ _ (VRow.empty h4 hg4b) hB.size ((HVs.out.next hB).take k (by rw [List.length_map]; omega)) (fun u hu => ints_one z u (List.mem_of_mem_take hu)) (by simp <;> omega)) ?_
                          rintro v6 w3 ⟨h6, hgr⟩
                          try have h8 := at_keep h8 hgr (fun q => hne (by injection q with q; exact q.symm))
                          have hB := below_gr hB hB.size hgr (fun q hq => by have e : g4 = q := Option.some.inj hq; omega)
                          clear hgr h4 hg4b
                          try clear hne
                          rw [List.nil_append] at h6
                          refine hK.out _ _ ?_ (fun hHeld => ?_)
                          · trivial
                          clear hK K
                          try simp only [Act.put, List.setIfInBounds_toArray, List.set_cons_zero, List.set_cons_succ]
                          refine wpAnyH_ready (rs := [7]) (by kernel_rfl) (by simp) ?_
                          refine AllReadyH.cons (o := ⟨some 67, _, _, _, _, _⟩) rfl (fun K hK => ?_) AllReadyH.nil
                          refine stepv_append rfl _ _ 32 rfl _ _ rfl rfl (append_vals (E := 3) Tryd.underlying32 hi0 hz0 hz1 hz2 rfl (by decide) _ ws.heap.size v6 _ [(.int .i64 y)] (some ⟨g8, 0, none⟩) 1 1 _ h6 hB.size (one_vals h8) (fun u hu => by rw [List.mem_singleton.1 hu]; rfl) (by simp <;> omega)) ?_
                          rintro v7 w3 ⟨h7, hgr⟩
                          have hrow := h6.low
                          have hB := below_gr hB hB.size hgr hrow
                          clear hgr h6 h8 hrow
                          refine hK.out _ _ ?_ (fun hHeld => ?_)
                          · trivial
                          clear hK K
                          try simp only [Act.put, List.setIfInBounds_toArray, List.set_cons_zero, List.set_cons_succ]
                          refine wpAnyH_ready (rs := [11]) (by kernel_rfl) (by simp) ?_
                          refine AllReadyH.cons (o := ⟨some 71, _, _, _, _, _⟩) rfl (fun K hK => ?_) AllReadyH.nil
                          refine stepv_append rfl _ _ 32 rfl _ _ rfl rfl (append_vals (E := 3) Tryd.underlying32 hi0 hz0 hz1 hz2 rfl (by decide) _ ws.heap.size v7 _ ((z.map (Value.int .i64)).drop k) (some ⟨b6, o6 + k, none⟩) _ _ _ h7 hB.size (by have h := (HVs.out.next hB).drop rfl k (cu - k) (by rw [List.length_map]; omega) rfl; rw [List.length_map] at h; exact h) (fun u hu => ints_one z u (List.mem_of_mem_drop hu)) (by simp <;> omega)) ?_
                          rintro v9 w3 ⟨h9, hgr⟩
                          have hrow := h7.low
                          have hB := below_gr hB hB.size hgr hrow
                          clear hgr h7 hrow
                          refine hK.out _ _ ?_ (fun hHeld => ?_)
                          · trivial
                          clear hK K
                          try simp only [Act.put, List.setIfInBounds_toArray, List.set_cons_zero, List.set_cons_succ]
                          refine wpAnyH_take (i := 12) (oi := ⟨some 3, _, _, _, _, _⟩) (v := ?_) rfl (by kernel_rfl) (by kernel_rfl) (by kernel_rfl) (fun _ _ _ h => h) (Or.inl ⟨by rfl, ?_⟩) (by exact hHeld) ?_
                          rotate_left
                          · (intro w hSw; (try dsimp only at hSw); go_simp; try (with_reducible rfl))
                          simp only [Act.put, List.setIfInBounds_toArray, List.set_cons_zero, List.set_cons_succ]
                          refine wpAnyH_done (by kernel_rfl) ?_ _
                          refine NoPanic.normal ?_
                          have HBf := Lib.hid (And.intro (HBs.out.1.trans (hB.mono HBs.out.1.size)) (HBs.out.2.trans (hB.mono HBs.out.2.size)))
                          have HVe := Lib.hid h9.vals
                          clear hB h9 hHeld
                          go_wp2_with fail
                          go_roundw
                          case rel => exact ⟨j + 1, addN z y, by omega, by go_num, HJn.out, Lib.hid (zat_ins k HAdd.out HIns.out HVe.out HZi.out HYi.out), HBf⟩
                          case measure => simp [intOf]; omega
                      refine AllReadyH.cons (o := ⟨some 66, _, _, _, _, _⟩) rfl (fun K hK => ?_) AllReadyH.nil
                      · refine stepv_slice1 32 3 rfl _ (.int .i64 y) rfl rfl (run_ints1 _) (fun g8 w3 h8 hb3 hg8 => ?_)
                        try have hne : g8 ≠ g4 := by have := h4.lt; omega
                        try have h4 := h4.step hb3 rfl
                        try have h6 := h6.next hb3
                        have hB := hB.trans (hb3.mono hB.size)
                        clear hb3 hg8
                        try dsimp only
                        refine hK.out _ _ ?_ (fun hHeld => ?_)
                        · trivial
                        clear hK K
                        try simp only [Act.put, List.setIfInBounds_toArray, List.set_cons_zero, List.set_cons_succ]
                        refine wpAnyH_ready (rs := [0]) (by kernel_rfl) (by simp) ?_
                        refine AllReadyH.cons (o := ⟨some 60, _, _, _, _, _⟩) rfl (fun K hK => ?_) AllReadyH.nil
                        refine stepv_slice0 32 3 rfl rfl run_ints0 (fun g4 w3 h4 hb3 hg4 => ?_)
                        have hg4b : ws.heap.size ≤ g4 := Nat.le_trans hB.size hg4
                        try have hne : g8 ≠ g4 := by have := h8.lt; omega
                        try have h8 := h8.step hb3 rfl
                        have hB := hB.trans (hb3.mono hB.size)
                        clear hb3 hg4
                        try dsimp only
                        refine hK.out _ _ ?_ (fun hHeld => ?_)
                        · trivial
                        clear hK K
                        try simp only [Act.put, List.setIfInBounds_toArray, List.set_cons_zero, List.set_cons_succ]
                        refine wpAnyH_ready (rs := [4]) (by kernel_rfl) (by simp) ?_
                        refine AllReadyH.cons (o := ⟨some 64, _, _, _, _, _⟩) rfl (fun K hK => ?_) AllReadyH.nil
                        refine stepv_append rfl _ _ 32 rfl _ _ rfl rfl (append_vals (E := 3) Tryd.underlying32 hi0 hz0 hz1 hz2 rfl (by decide) _ ws.heap.size _ [] ((z.map (Value.int .i64)).take k) (some ⟨b6, o6, none⟩) k _ _ (VRow.empty h4 hg4b) hB.size ((HVs.out.next hB).take k (by rw [List.length_map]; omega)) (fun u hu => ints_one z u (List.mem_of_mem_take hu)) (by simp <;> omega)) ?_
                        rintro v6 w3 ⟨h6, hgr⟩
                        try have h8 := at_keep h8 hgr (fun q => hne (by injection q with q; exact q.symm))
                        have hB := below_gr hB hB.size hgr (fun q hq => by have e : g4 = q := Option.some.inj hq; omega)
                        clear hgr h4 hg4b
                        try clear hne
                        rw [List.nil_append] at h6
                        refine hK.out _ _ ?_ (fun hHeld => ?_)
                        · trivial
                        clear hK K
                        try simp only [Act.put, List.setIfInBounds_toArray, List.set_cons_zero, List.set_cons_succ]
                        refine wpAnyH_ready (rs := [7]) (by kernel_rfl) (by simp) ?_
                        refine AllReadyH.cons (o := ⟨some 67, _, _, _, _, _⟩) rfl (fun K hK => ?_) AllReadyH.nil
                        refine stepv_append rfl _ _ 32 rfl _ _ rfl rfl (append_vals (E := 3) Tryd.underlying32 hi0 hz0 hz1 hz2 rfl (by decide) _ ws.heap.size v6 _ [(.int .i64 y)] (some ⟨g8, 0, none⟩) 1 1 _ h6 hB.size (one_vals h8) (fun u hu => by rw [List.mem_singleton.1 hu]; rfl) (by simp <;> omega)) ?_
                        rintro v7 w3 ⟨h7, hgr⟩
                        have hrow := h6.low
                        have hB := below_gr hB hB.size hgr hrow
                        clear hgr h6 h8 hrow
                        refine hK.out _ _ ?_ (fun hHeld => ?_)
                        · trivial
                        clear hK K
                        try simp only [Act.put, List.setIfInBounds_toArray, List.set_cons_zero, List.set_cons_succ]
                        refine wpAnyH_ready (rs := [11]) (by kernel_rfl) (by simp) ?_
                        refine AllReadyH.cons (o := ⟨some 71, _, _, _, _, _⟩) rfl (fun K hK => ?_) AllReadyH.nil
                        refine stepv_append rfl _ _ 32 rfl _ _ rfl rfl (append_vals (E := 3) Tryd.underlying32 hi0 hz0 hz1 hz2 rfl (by decide) _ ws.heap.size v7 _ ((z.map (Value.int .i64)).drop k) (some ⟨b6, o6 + k, none⟩) _ _ _ h7 hB.size (by have h := (HVs.out.next hB).drop rfl k (cu - k) (by rw [List.length_map]; omega) rfl; rw [List.length_map] at h; exact h) (fun u hu => ints_one z u (List.mem_of_mem_drop hu)) (by simp <;> omega)) ?_
                        rintro v9 w3 ⟨h9, hgr⟩
                        have hrow := h7.low
                        have hB := below_gr hB hB.size hgr hrow
                        clear hgr h7 hrow
                        refine hK.out _ _ ?_ (fun hHeld => ?_)
                        · trivial
                        clear hK K
                        try simp only [Act.put, List.setIfInBounds_toArray, List.set_cons_zero, List.set_cons_succ]
                        refine wpAnyH_take (i := 12) (oi := ⟨some 3, _, _, _, _, _⟩) (v := ?_) rfl (by kernel_rfl) (by kernel_rfl) (by kernel_rfl) (fun _ _ _ h => h) (Or.inl ⟨by rfl, ?_⟩) (by exact hHeld) ?_
                        rotate_left
                        · (intro w hSw; (try dsimp only at hSw); go_simp; try (with_reducible rfl))
                        simp only [Act.put, List.setIfInBounds_toArray, List.set_cons_zero, List.set_cons_succ]
                        refine wpAnyH_done (by kernel_rfl) ?_ _
                        refine NoPanic.normal ?_
                        have HBf := Lib.hid (And.intro (HBs.out.1.trans (hB.mono HBs.out.1.size)) (HBs.out.2.trans (hB.mono HBs.out.2.size)))
                        have HVe := Lib.hid h9.vals
                        clear hB h9 hHeld
                        go_wp2_with fail
                        go_roundw
                        case rel => exact ⟨j + 1, addN z y, by omega, by go_num, HJn.out, Lib.hid (zat_ins k HAdd.out HIns.out HVe.out HZi.out HYi.out), HBf⟩
                        case measure => simp [intOf]; omega
                  · have hkt : k = t := by omega
                    have h42 : ¬ (k : Int) < (z.length : Int) := by omega
                    have h43 : decide (k < z.length) = false := decide_eq_false hkf
                    have hkl2 : k = z.length := by omega
                    subst hkt
                    have hcu := HV3.out.cap
                    rw [List.length_map] at hcu
                    by_cases hue : z = []
                    · have hv0 := HVn.out hue
                      injection hv0 with hv1 hv2 hv3
                      clear hv2
                      subst hue
                      subst hv1 hv3
                      obtain rfl : k = 0 := by simpa using hkl2
                      clear hkl2 hcu
                      go_wp2_with fail
                      obtain ⟨ws, hws⟩ : ∃ ws, ws = wz := ⟨_, rfl⟩
                      have HBs : Hid (Below w.heap.size w ws ∧ Below wi.heap.size wi ws) := Lib.hid (by rw [hws]; exact HB3.out)
                      skip
                      rw [← hws]
                      clear hws
                      refine wp_region_noPanic ?_
                      refine wp_region_held_drew (S := (fun _ => True)) (by kernel_rfl) (by trivial) (fun hHeld => ?_)
                      have hB : Below ws.heap.size ws ws.drew := (Below.refl _ _).drew
                      refine wpAnyH_take (i := 1) (oi := ⟨some 61, _, _, _, _, _⟩) (v := ?_) rfl (by kernel_rfl) (by kernel_rfl) (by kernel_rfl) (fun _ _ _ h => h) (Or.inl ⟨by rfl, ?_⟩) (by exact hHeld) ?_
                      rotate_left
                      · (intro w hSw; (try dsimp only at hSw); go_simp; try (with_reducible rfl))
                      simp only [Act.put, List.setIfInBounds_toArray, List.set_cons_zero, List.set_cons_succ]
                      refine wpAnyH_take (i := 2) (oi := ⟨some 62, _, _, _, _, _⟩) (v := ?_) rfl (by kernel_rfl) (by kernel_rfl) (by kernel_rfl) (fun _ _ _ h => h) (Or.inl ⟨by rfl, ?_⟩) (by exact hHeld) ?_
                      rotate_left
                      · (intro w hSw; (try dsimp only at hSw); go_simp; try (with_reducible rfl))
                      simp only [Act.put, List.setIfInBounds_toArray, List.set_cons_zero, List.set_cons_succ]
                      refine wpAnyH_take (i := 3) (oi := ⟨some 63, _, _, _, _, _⟩) (v := ?_) rfl (by kernel_rfl) (by kernel_rfl) (by kernel_rfl) (fun _ _ _ h => h) (Or.inl ⟨by rfl, ?_⟩) (by exact hHeld) ?_
                      rotate_left
                      · (intro w hSw; (try dsimp only at hSw); go_simp; try (with_reducible rfl))
                      simp only [Act.put, List.setIfInBounds_toArray, List.set_cons_zero, List.set_cons_succ]
                      refine wpAnyH_take (i := 5) (oi := ⟨some 65, _, _, _, _, _⟩) (v := ?_) rfl (by kernel_rfl) (by kernel_rfl) (by kernel_rfl) (fun _ _ _ h => h) (Or.inl ⟨by rfl, ?_⟩) (by exact hHeld) ?_
                      rotate_left
                      · (intro w hSw; (try dsimp only at hSw); go_simp; try (with_reducible rfl))
                      simp only [Act.put, List.setIfInBounds_toArray, List.set_cons_zero, List.set_cons_succ]
                      refine wpAnyH_take (i := 8) (oi := ⟨some 68, _, _, _, _, _⟩) (v := ?_) rfl (by kernel_rfl) (by kernel_rfl) (by kernel_rfl) (fun _ _ _ h => h) (Or.inl ⟨by rfl, ?_⟩) (by exact hHeld) ?_
                      rotate_left
                      · (intro w hSw; (try dsimp only at hSw); go_simp; try (with_reducible rfl))
                      simp only [Act.put, List.setIfInBounds_toArray, List.set_cons_zero, List.set_cons_succ]
                      refine wpAnyH_take (i := 9) (oi := ⟨some 69, _, _, _, _, _⟩) (v := ?_) rfl (by kernel_rfl) (by kernel_rfl) (by kernel_rfl) (fun _ _ _ h => h) (Or.inl ⟨by rfl, ?_⟩) (by exact hHeld) ?_
                      rotate_left
                      · (intro w hSw; (try dsimp only at hSw); go_simp; try (with_reducible rfl))
                      simp only [Act.put, List.setIfInBounds_toArray, List.set_cons_zero, List.set_cons_succ]
                      refine wpAnyH_take (i := 10) (oi := ⟨some 70, _, _, _, _, _⟩) (v := ?_) rfl (by kernel_rfl) (by kernel_rfl) (by kernel_rfl) (fun _ _ _ h => h) (Or.inl ⟨by rfl, ?_⟩) (by exact hHeld) ?_
                      rotate_left
                      · (intro w hSw; (try dsimp only at hSw); go_simp; try (with_reducible rfl))
                      simp only [Act.put, List.setIfInBounds_toArray, List.set_cons_zero, List.set_cons_succ]
                      refine wpAnyH_ready (rs := [0, 6]) (by kernel_rfl) (by simp) ?_
                      refine AllReadyH.cons (o := ⟨some 60, _, _, _, _, _⟩) rfl (fun K hK => ?_) ?_
                      · refine stepv_slice0 32 3 rfl rfl run_ints0 (fun g4 w3 h4 hb3 hg4 => ?_)
                        have hg4b : ws.heap.size ≤ g4 := Nat.le_trans hB.size hg4
                        try have hne : g8 ≠ g4 := by have := h8.lt; omega
                        try have h8 := h8.step hb3 rfl
                        have hB := hB.trans (hb3.mono hB.size)
                        clear hb3 hg4
                        try dsimp only
                        refine hK.out _ _ ?_ (fun hHeld => ?_)
                        · trivial
                        clear hK K
                        try simp only [Act.put, List.setIfInBounds_toArray, List.set_cons_zero, List.set_cons_succ]
                        refine wpAnyH_ready (rs := [4, 6]) (by kernel_rfl) (by simp) ?_
                        refine AllReadyH.cons (o := ⟨some 64, _, _, _, _, _⟩) rfl (fun K hK => ?_) ?_
                        · refine stepv_append rfl _ _ 32 rfl _ _ rfl rfl (append_vals (E := 3) Tryd.underlying32 hi0 hz0 hz1 hz2 rfl (by decide) _ ws.heap.size _ [] [] none 0 _ _ (VRow.empty h4 hg4b) hB.size (ValsAt.nil _) (fun u hu => by cases hu) (by simp <;> omega)) ?_
                          rintro v6 w3 ⟨h6, hgr⟩
                          try have h8 := at_keep h8 hgr (fun q => hne (by injection q with q; exact q.symm))
                          have hB := below_gr hB hB.size hgr (fun q hq => by have e : g4 = q := Option.some.inj hq; omega)
                          clear hgr h4 hg4b
                          try clear hne
                          rw [List.nil_append] at h6
                          refine hK.out _ _ ?_ (fun hHeld => ?_)
                          · trivial
                          clear hK K
                          try simp only [Act.put, List.setIfInBounds_toArray, List.set_cons_zero, List.set_cons_succ]
                          refine wpAnyH_ready (rs := [6]) (by kernel_rfl) (by simp) ?_
                          refine AllReadyH.cons (o := ⟨some 66, _, _, _, _, _⟩) rfl (fun K hK => ?_) AllReadyH.nil
                          refine stepv_slice1 32 3 rfl _ (.int .i64 y) rfl rfl (run_ints1 _) (fun g8 w3 h8 hb3 hg8 => ?_)
                          try have hne : g8 ≠ g4 := by have := h4.lt; omega
                          try have h4 := h4.step hb3 rfl
                          try have h6 := h6.next hb3
                          have hB := hB.trans (hb3.mono hB.size)
                          clear hb3 hg8
                          try dsimp only
                          refine hK.out _ _ ?_ (fun hHeld => ?_)
                          · trivial
                          clear hK K
                          try simp only [Act.put, List.setIfInBounds_toArray, List.set_cons_zero, List.set_cons_succ]
                          refine wpAnyH_ready (rs := [7]) (by kernel_rfl) (by simp) ?_
                          refine AllReadyH.cons (o := ⟨some 67, _, _, _, _, _⟩) rfl (fun K hK => ?_) AllReadyH.nil
                          refine stepv_append rfl _ _ 32 rfl _ _ rfl rfl (append_vals (E := 3) Tryd.underlying32 hi0 hz0 hz1 hz2 rfl (by decide) _ ws.heap.size v6 _ [(.int .i64 y)] (some ⟨g8, 0, none⟩) 1 1 _ h6 hB.size (one_vals h8) (fun u hu => by rw [List.mem_singleton.1 hu]; rfl) (by simp <;> omega)) ?_
                          rintro v7 w3 ⟨h7, hgr⟩
                          have hrow := h6.low
                          have hB := below_gr hB hB.size hgr hrow
                          clear hgr h6 h8 hrow
                          refine hK.out _ _ ?_ (fun hHeld => ?_)
                          · trivial
                          clear hK K
                          try simp only [Act.put, List.setIfInBounds_toArray, List.set_cons_zero, List.set_cons_succ]
                          refine wpAnyH_ready (rs := [11]) (by kernel_rfl) (by simp) ?_
                          refine AllReadyH.cons (o := ⟨some 71, _, _, _, _, _⟩) rfl (fun K hK => ?_) AllReadyH.nil
                          refine stepv_append rfl _ _ 32 rfl _ _ rfl rfl (append_vals (E := 3) Tryd.underlying32 hi0 hz0 hz1 hz2 rfl (by decide) _ ws.heap.size v7 _ [] none _ _ _ h7 hB.size (ValsAt.nil _) (fun u hu => by cases hu) (by simp <;> omega)) ?_
                          rintro v9 w3 ⟨h9, hgr⟩
                          have hrow := h7.low
                          have hB := below_gr hB hB.size hgr hrow
                          clear hgr h7 hrow
                          refine hK.out _ _ ?_ (fun hHeld => ?_)
                          · trivial
                          clear hK K
                          try simp only [Act.put, List.setIfInBounds_toArray, List.set_cons_zero, List.set_cons_succ]
                          refine wpAnyH_take (i := 12) (oi := ⟨some 3, _, _, _, _, _⟩) (v := ?_) rfl (by kernel_rfl) (by kernel_rfl) (by kernel_rfl) (fun _ _ _ h => h) (Or.inl ⟨by rfl, ?_⟩) (by exact hHeld) ?_
                          rotate_left
                          · (intro w hSw; (try dsimp only at hSw); go_simp; try (with_reducible rfl))
                          simp only [Act.put, List.setIfInBounds_toArray, List.set_cons_zero, List.set_cons_succ]
                          refine wpAnyH_done (by kernel_rfl) ?_ _
                          refine NoPanic.normal ?_
                          have HBf := Lib.hid (And.intro (HBs.out.1.trans (hB.mono HBs.out.1.size)) (HBs.out.2.trans (hB.mono HBs.out.2.size)))
                          have HVe := Lib.hid h9.vals
                          clear hB h9 hHeld
                          go_wp2_with fail
                          go_roundw
                          case rel => exact ⟨j + 1, addN ([] : List Int) y, by omega, by go_num, HJn.out, Lib.hid (zat_ins 0 HAdd.out HIns.out HVe.out HZi.out HYi.out), HBf⟩
                          case measure => simp [intOf]; omega
                        refine AllReadyH.cons (o := ⟨some 66, _, _, _, _, _⟩) rfl (fun K hK => ?_) AllReadyH.nil
                        · refine stepv_slice1 32 3 rfl _ (.int .i64 y) rfl rfl (run_ints1 _) (fun g8 w3 h8 hb3 hg8 => ?_)
                          try have hne : g8 ≠ g4 := by have := h4.lt; omega
                          try have h4 := h4.step hb3 rfl
                          try have h6 := h6.next hb3
                          have hB := hB.trans (hb3.mono hB.size)
                          clear hb3 hg8
                          try dsimp only
                          refine hK.out _ _ ?_ (fun hHeld => ?_)
                          · trivial
                          clear hK K
                          try simp only [Act.put, List.setIfInBounds_toArray, List.set_cons_zero, List.set_cons_succ]
                          refine wpAnyH_ready (rs := [4]) (by kernel_rfl) (by simp) ?_
                          refine AllReadyH.cons (o := ⟨some 64, _, _, _, _, _⟩) rfl (fun K hK => ?_) AllReadyH.nil
                          refine stepv_append rfl _ _ 32 rfl _ _ rfl rfl (append_vals (E := 3) Tryd.underlying32 hi0 hz0 hz1 hz2 rfl (by decide) _ ws.heap.size _ [] [] none 0 _ _ (VRow.empty h4 hg4b) hB.size (ValsAt.nil _) (fun u hu => by cases hu) (by simp <;> omega)) ?_
                          rintro v6 w3 ⟨h6, hgr⟩
                          try have h8 := at_keep h8 hgr (fun q => hne (by injection q with q; exact q.symm))
                          have hB := below_gr hB hB.size hgr (fun q hq => by have e : g4 = q := Option.some.inj hq; omega)
                          clear hgr h4 hg4b
                          try clear hne
                          rw [List.nil_append] at h6
                          refine hK.out _ _ ?_ (fun hHeld => ?_)
                          · trivial
                          clear hK K
                          try simp only [Act.put, List.setIfInBounds_toArray, List.set_cons_zero, List.set_cons_succ]
                          refine wpAnyH_ready (rs := [7]) (by kernel_rfl) (by simp) ?_
                          refine AllReadyH.cons (o := ⟨some 67, _, _, _, _, _⟩) rfl (fun K hK => ?_) AllReadyH.nil
                          refine stepv_append rfl _ _ 32 rfl _ _ rfl rfl (append_vals (E := 3) Tryd.underlying32 hi0 hz0 hz1 hz2 rfl (by decide) _ ws.heap.size v6 _ [(.int .i64 y)] (some ⟨g8, 0, none⟩) 1 1 _ h6 hB.size (one_vals h8) (fun u hu => by rw [List.mem_singleton.1 hu]; rfl) (by simp <;> omega)) ?_
                          rintro v7 w3 ⟨h7, hgr⟩
                          have hrow := h6.low
                          have hB := below_gr hB hB.size hgr hrow
                          clear hgr h6 h8 hrow
                          refine hK.out _ _ ?_ (fun hHeld => ?_)
                          · trivial
                          clear hK K
                          try simp only [Act.put, List.setIfInBounds_toArray, List.set_cons_zero, List.set_cons_succ]
                          refine wpAnyH_ready (rs := [11]) (by kernel_rfl) (by simp) ?_
                          refine AllReadyH.cons (o := ⟨some 71, _, _, _, _, _⟩) rfl (fun K hK => ?_) AllReadyH.nil
                          refine stepv_append rfl _ _ 32 rfl _ _ rfl rfl (append_vals (E := 3) Tryd.underlying32 hi0 hz0 hz1 hz2 rfl (by decide) _ ws.heap.size v7 _ [] none _ _ _ h7 hB.size (ValsAt.nil _) (fun u hu => by cases hu) (by simp <;> omega)) ?_
                          rintro v9 w3 ⟨h9, hgr⟩
                          have hrow := h7.low
                          have hB := below_gr hB hB.size hgr hrow
                          clear hgr h7 hrow
                          refine hK.out _ _ ?_ (fun hHeld => ?_)
                          · trivial
                          clear hK K
                          try simp only [Act.put, List.setIfInBounds_toArray, List.set_cons_zero, List.set_cons_succ]
                          refine wpAnyH_take (i := 12) (oi := ⟨some 3, _, _, _, _, _⟩) (v := ?_) rfl (by kernel_rfl) (by kernel_rfl) (by kernel_rfl) (fun _ _ _ h => h) (Or.inl ⟨by rfl, ?_⟩) (by exact hHeld) ?_
                          rotate_left
                          · (intro w hSw; (try dsimp only at hSw); go_simp; try (with_reducible rfl))
                          simp only [Act.put, List.setIfInBounds_toArray, List.set_cons_zero, List.set_cons_succ]
                          refine wpAnyH_done (by kernel_rfl) ?_ _
                          refine NoPanic.normal ?_
                          have HBf := Lib.hid (And.intro (HBs.out.1.trans (hB.mono HBs.out.1.size)) (HBs.out.2.trans (hB.mono HBs.out.2.size)))
                          have HVe := Lib.hid h9.vals
                          clear hB h9 hHeld
                          go_wp2_with fail
                          go_roundw
                          case rel => exact ⟨j + 1, addN ([] : List Int) y, by omega, by go_num, HJn.out, Lib.hid (zat_ins 0 HAdd.out HIns.out HVe.out HZi.out HYi.out), HBf⟩
                          case measure => simp [intOf]; omega
                      refine AllReadyH.cons (o := ⟨some 66, _, _, _, _, _⟩) rfl (fun K hK => ?_) AllReadyH.nil
                      · refine stepv_slice1 32 3 rfl _ (.int .i64 y) rfl rfl (run_ints1 _) (fun g8 w3 h8 hb3 hg8 => ?_)
                        try have hne : g8 ≠ g4 := by have := h4.lt; omega
                        try have h4 := h4.step hb3 rfl
                        try have h6 := h6.next hb3
                        have hB := hB.trans (hb3.mono hB.size)
                        clear hb3 hg8
                        try dsimp only
                        refine hK.out _ _ ?_ (fun hHeld => ?_)
                        · trivial
                        clear hK K
                        try simp only [Act.put, List.setIfInBounds_toArray, List.set_cons_zero, List.set_cons_succ]
                        refine wpAnyH_ready (rs := [0]) (by kernel_rfl) (by simp) ?_
                        refine AllReadyH.cons (o := ⟨some 60, _, _, _, _, _⟩) rfl (fun K hK => ?_) AllReadyH.nil
                        refine stepv_slice0 32 3 rfl rfl run_ints0 (fun g4 w3 h4 hb3 hg4 => ?_)
                        have hg4b : ws.heap.size ≤ g4 := Nat.le_trans hB.size hg4
                        try have hne : g8 ≠ g4 := by have := h8.lt; omega
                        try have h8 := h8.step hb3 rfl
                        have hB := hB.trans (hb3.mono hB.size)
                        clear hb3 hg4
                        try dsimp only
                        refine hK.out _ _ ?_ (fun hHeld => ?_)
                        · trivial
                        clear hK K
                        try simp only [Act.put, List.setIfInBounds_toArray, List.set_cons_zero, List.set_cons_succ]
                        refine wpAnyH_ready (rs := [4]) (by kernel_rfl) (by simp) ?_
                        refine AllReadyH.cons (o := ⟨some 64, _, _, _, _, _⟩) rfl (fun K hK => ?_) AllReadyH.nil
                        refine stepv_append rfl _ _ 32 rfl _ _ rfl rfl (append_vals (E := 3) Tryd.underlying32 hi0 hz0 hz1 hz2 rfl (by decide) _ ws.heap.size _ [] [] none 0 _ _ (VRow.empty h4 hg4b) hB.size (ValsAt.nil _) (fun u hu => by cases hu) (by simp <;> omega)) ?_
                        rintro v6 w3 ⟨h6, hgr⟩
                        try have h8 := at_keep h8 hgr (fun q => hne (by injection q with q; exact q.symm))
                        have hB := below_gr hB hB.size hgr (fun q hq => by have e : g4 = q := Option.some.inj hq; omega)
                        clear hgr h4 hg4b
                        try clear hne
                        rw [List.nil_append] at h6
                        refine hK.out _ _ ?_ (fun hHeld => ?_)
                        · trivial
                        clear hK K
                        try simp only [Act.put, List.setIfInBounds_toArray, List.set_cons_zero, List.set_cons_succ]
                        refine wpAnyH_ready (rs := [7]) (by kernel_rfl) (by simp) ?_
                        refine AllReadyH.cons (o := ⟨some 67, _, _, _, _, _⟩) rfl (fun K hK => ?_) AllReadyH.nil
                        refine stepv_append rfl _ _ 32 rfl _ _ rfl rfl (append_vals (E := 3) Tryd.underlying32 hi0 hz0 hz1 hz2 rfl (by decide) _ ws.heap.size v6 _ [(.int .i64 y)] (some ⟨g8, 0, none⟩) 1 1 _ h6 hB.size (one_vals h8) (fun u hu => by rw [List.mem_singleton.1 hu]; rfl) (by simp <;> omega)) ?_
                        rintro v7 w3 ⟨h7, hgr⟩
                        have hrow := h6.low
                        have hB := below_gr hB hB.size hgr hrow
                        clear hgr h6 h8 hrow
                        refine hK.out _ _ ?_ (fun hHeld => ?_)
                        · trivial
                        clear hK K
                        try simp only [Act.put, List.setIfInBounds_toArray, List.set_cons_zero, List.set_cons_succ]
                        refine wpAnyH_ready (rs := [11]) (by kernel_rfl) (by simp) ?_
                        refine AllReadyH.cons (o := ⟨some 71, _, _, _, _, _⟩) rfl (fun K hK => ?_) AllReadyH.nil
                        refine stepv_append rfl _ _ 32 rfl _ _ rfl rfl (append_vals (E := 3) Tryd.underlying32 hi0 hz0 hz1 hz2 rfl (by decide) _ ws.heap.size v7 _ [] none _ _ _ h7 hB.size (ValsAt.nil _) (fun u hu => by cases hu) (by simp <;> omega)) ?_
                        rintro v9 w3 ⟨h9, hgr⟩
                        have hrow := h7.low
                        have hB := below_gr hB hB.size hgr hrow
                        clear hgr h7 hrow
                        refine hK.out _ _ ?_ (fun hHeld => ?_)
                        · trivial
                        clear hK K
                        try simp only [Act.put, List.setIfInBounds_toArray, List.set_cons_zero, List.set_cons_succ]
                        refine wpAnyH_take (i := 12) (oi := ⟨some 3, _, _, _, _, _⟩) (v := ?_) rfl (by kernel_rfl) (by kernel_rfl) (by kernel_rfl) (fun _ _ _ h => h) (Or.inl ⟨by rfl, ?_⟩) (by exact hHeld) ?_
                        rotate_left
                        · (intro w hSw; (try dsimp only at hSw); go_simp; try (with_reducible rfl))
                        simp only [Act.put, List.setIfInBounds_toArray, List.set_cons_zero, List.set_cons_succ]
                        refine wpAnyH_done (by kernel_rfl) ?_ _
                        refine NoPanic.normal ?_
                        have HBf := Lib.hid (And.intro (HBs.out.1.trans (hB.mono HBs.out.1.size)) (HBs.out.2.trans (hB.mono HBs.out.2.size)))
                        have HVe := Lib.hid h9.vals
                        clear hB h9 hHeld
                        go_wp2_with fail
                        go_roundw
                        case rel => exact ⟨j + 1, addN ([] : List Int) y, by omega, by go_num, HJn.out, Lib.hid (zat_ins 0 HAdd.out HIns.out HVe.out HZi.out HYi.out), HBf⟩
                        case measure => simp [intOf]; omega
                    · have hlu : 0 < z.length := List.length_pos_iff.2 hue
                      have hV5 := HV3.out
                      obtain ⟨A5, c5, e5, _, _, h5⟩ := id hV5
                      injection e5 with e5 e7 e6
                      subst e5 e6
                      clear e7
                      obtain ⟨b6, o6, rfl, _, _⟩ := h5 (by rw [List.length_map]; exact hlu)
                      clear h5 hV5 hue hlu
                      have HDr : Hid ((z.map (Value.int .i64)).drop k = []) := Lib.hid (List.drop_of_length_le (by rw [List.length_map]; omega))
                      have hck0 : k ≤ z.length := by omega
                      have hkn : (k : Int) ≤ (z.length : Int) := by omega
                      have hcz : (z.length : Int) ≤ (cu : Int) := by omega
                      have hkc : (k : Int) ≤ (cu : Int) := by omega
                      clear hkl2
                      by_cases hce : cu = k
                      · obtain rfl : k = cu := hce.symm
                        go_wp2_with fail
                        obtain ⟨ws, hws⟩ : ∃ ws, ws = wz := ⟨_, rfl⟩
                        have HBs : Hid (Below w.heap.size w ws ∧ Below wi.heap.size wi ws) := Lib.hid (by rw [hws]; exact HB3.out)
                        have HVs : Hid (ValsAt ws (.slice (some ⟨b6, o6, none⟩) z.length k) (z.map (Value.int .i64))) := Lib.hid (by rw [hws]; have h := HV3.out; exact h)
                        rw [← hws]
                        clear hws
                        refine wp_region_noPanic ?_
                        refine wp_region_held_drew (S := (fun _ => True)) (by kernel_rfl) (by trivial) (fun hHeld => ?_)
                        have hB : Below ws.heap.size ws ws.drew := (Below.refl _ _).drew
                        refine wpAnyH_take (i := 1) (oi := ⟨some 61, _, _, _, _, _⟩) (v := ?_) rfl (by kernel_rfl) (by kernel_rfl) (by kernel_rfl) (fun _ _ _ h => h) (Or.inl ⟨by rfl, ?_⟩) (by exact hHeld) ?_
                        rotate_left
                        · (intro w hSw; (try dsimp only at hSw); go_simp; try (with_reducible rfl))
                        simp only [Act.put, List.setIfInBounds_toArray, List.set_cons_zero, List.set_cons_succ]
                        refine wpAnyH_take (i := 2) (oi := ⟨some 62, _, _, _, _, _⟩) (v := ?_) rfl (by kernel_rfl) (by kernel_rfl) (by kernel_rfl) (fun _ _ _ h => h) (Or.inl ⟨by rfl, ?_⟩) (by exact hHeld) ?_
                        rotate_left
                        · (intro w hSw; (try dsimp only at hSw); go_simp; try (with_reducible rfl))
                        simp only [Act.put, List.setIfInBounds_toArray, List.set_cons_zero, List.set_cons_succ]
                        refine wpAnyH_take (i := 3) (oi := ⟨some 63, _, _, _, _, _⟩) (v := ?_) rfl (by kernel_rfl) (by kernel_rfl) (by kernel_rfl) (fun _ _ _ h => h) (Or.inl ⟨by rfl, ?_⟩) (by exact hHeld) ?_
                        rotate_left
                        · (intro w hSw; (try dsimp only at hSw); go_simp; try (with_reducible rfl))
                        simp only [Act.put, List.setIfInBounds_toArray, List.set_cons_zero, List.set_cons_succ]
                        refine wpAnyH_take (i := 5) (oi := ⟨some 65, _, _, _, _, _⟩) (v := ?_) rfl (by kernel_rfl) (by kernel_rfl) (by kernel_rfl) (fun _ _ _ h => h) (Or.inl ⟨by rfl, ?_⟩) (by exact hHeld) ?_
                        rotate_left
                        · (intro w hSw; (try dsimp only at hSw); go_simp; try (with_reducible rfl))
                        simp only [Act.put, List.setIfInBounds_toArray, List.set_cons_zero, List.set_cons_succ]
                        refine wpAnyH_take (i := 8) (oi := ⟨some 68, _, _, _, _, _⟩) (v := ?_) rfl (by kernel_rfl) (by kernel_rfl) (by kernel_rfl) (fun _ _ _ h => h) (Or.inl ⟨by rfl, ?_⟩) (by exact hHeld) ?_
                        rotate_left
                        · (intro w hSw; (try dsimp only at hSw); go_simp; try (with_reducible rfl))
                        simp only [Act.put, List.setIfInBounds_toArray, List.set_cons_zero, List.set_cons_succ]
                        refine wpAnyH_take (i := 9) (oi := ⟨some 69, _, _, _, _, _⟩) (v := ?_) rfl (by kernel_rfl) (by kernel_rfl) (by kernel_rfl) (fun _ _ _ h => h) (Or.inl ⟨by rfl, ?_⟩) (by exact hHeld) ?_
                        rotate_left
                        · (intro w hSw; (try dsimp only at hSw); go_simp; try (with_reducible rfl))
                        simp only [Act.put, List.setIfInBounds_toArray, List.set_cons_zero, List.set_cons_succ]
                        refine wpAnyH_take (i := 10) (oi := ⟨some 70, _, _, _, _, _⟩) (v := ?_) rfl (by kernel_rfl) (by kernel_rfl) (by kernel_rfl) (fun _ _ _ h => h) (Or.inl ⟨by rfl, ?_⟩) (by exact hHeld) ?_
                        rotate_left
                        · (intro w hSw; (try dsimp only at hSw); go_simp; try (with_reducible rfl))
                        simp only [Act.put, List.setIfInBounds_toArray, List.set_cons_zero, List.set_cons_succ]
                        refine wpAnyH_ready (rs := [0, 6]) (by kernel_rfl) (by simp) ?_
                        refine AllReadyH.cons (o := ⟨some 60, _, _, _, _, _⟩) rfl (fun K hK => ?_) ?_
                        · refine stepv_slice0 32 3 rfl rfl run_ints0 (fun g4 w3 h4 hb3 hg4 => ?_)
                          have hg4b : ws.heap.size ≤ g4 := Nat.le_trans hB.size hg4
                          try have hne : g8 ≠ g4 := by have := h8.lt; omega
                          try have h8 := h8.step hb3 rfl
                          have hB := hB.trans (hb3.mono hB.size)
                          clear hb3 hg4
                          try dsimp only
                          refine hK.out _ _ ?_ (fun hHeld => ?_)
                          · trivial
                          clear hK K
                          try simp only [Act.put, List.setIfInBounds_toArray, List.set_cons_zero, List.set_cons_succ]
                          refine wpAnyH_ready (rs := [4, 6]) (by kernel_rfl) (by simp) ?_
                          refine AllReadyH.cons (o := ⟨some 64, _, _, _, _, _⟩) rfl (fun K hK => ?_) ?_
                          · refine stepv_append rfl _ _ 32 rfl _ _ rfl rfl (append_vals (E := 3) Tryd.underlying32 hi0 hz0 hz1 hz2 rfl (by decide) _ ws.heap.size _ [] ((z.map (Value.int .i64)).take k) (some ⟨b6, o6, none⟩) k _ _ (VRow.empty h4 hg4b) hB.size ((HVs.out.next hB).take k (by rw [List.length_map]; omega)) (fun u hu => ints_one z u (List.mem_of_mem_take hu)) (by simp <;> omega)) ?_
                            rintro v6 w3 ⟨h6, hgr⟩
                            try have h8 := at_keep h8 hgr (fun q => hne (by injection q with q; exact q.symm))
                            have hB := below_gr hB hB.size hgr (fun q hq => by have e : g4 = q := Option.some.inj hq; omega)
                            clear hgr h4 hg4b
                            try clear hne
                            rw [List.nil_append] at h6
                            refine hK.out _ _ ?_ (fun hHeld => ?_)
                            · trivial
                            clear hK K
                            try simp only [Act.put, List.setIfInBounds_toArray, List.set_cons_zero, List.set_cons_succ]
                            refine wpAnyH_ready (rs := [6]) (by kernel_rfl) (by simp) ?_
                            refine AllReadyH.cons (o := ⟨some 66, _, _, _, _, _⟩) rfl (fun K hK => ?_) AllReadyH.nil
                            refine stepv_slice1 32 3 rfl _ (.int .i64 y) rfl rfl (run_ints1 _) (fun g8 w3 h8 hb3 hg8 => ?_)
                            try have hne : g8 ≠ g4 := by have := h4.lt; omega
                            try have h4 := h4.step hb3 rfl
                            try have h6 := h6.next hb3
                            have hB := hB.trans (hb3.mono hB.size)
                            clear hb3 hg8
                            try dsimp only
                            refine hK.out _ _ ?_ (fun hHeld => ?_)
                            · trivial
                            clear hK K
                            try simp only [Act.put, List.setIfInBounds_toArray, List.set_cons_zero, List.set_cons_succ]
                            refine wpAnyH_ready (rs := [7]) (by kernel_rfl) (by simp) ?_
                            refine AllReadyH.cons (o := ⟨some 67, _, _, _, _, _⟩) rfl (fun K hK => ?_) AllReadyH.nil
                            refine stepv_append rfl _ _ 32 rfl _ _ rfl rfl (append_vals (E := 3) Tryd.underlying32 hi0 hz0 hz1 hz2 rfl (by decide) _ ws.heap.size v6 _ [(.int .i64 y)] (some ⟨g8, 0, none⟩) 1 1 _ h6 hB.size (one_vals h8) (fun u hu => by rw [List.mem_singleton.1 hu]; rfl) (by simp <;> omega)) ?_
                            rintro v7 w3 ⟨h7, hgr⟩
                            have hrow := h6.low
                            have hB := below_gr hB hB.size hgr hrow
                            clear hgr h6 h8 hrow
                            refine hK.out _ _ ?_ (fun hHeld => ?_)
                            · trivial
                            clear hK K
                            try simp only [Act.put, List.setIfInBounds_toArray, List.set_cons_zero, List.set_cons_succ]
                            refine wpAnyH_ready (rs := [11]) (by kernel_rfl) (by simp) ?_
                            refine AllReadyH.cons (o := ⟨some 71, _, _, _, _, _⟩) rfl (fun K hK => ?_) AllReadyH.nil
                            refine stepv_append rfl _ _ 32 rfl _ _ rfl rfl (append_vals (E := 3) Tryd.underlying32 hi0 hz0 hz1 hz2 rfl (by decide) _ ws.heap.size v7 _ ((z.map (Value.int .i64)).drop k) (some ⟨b6, o6, none⟩) _ _ _ h7 hB.size (by rw [HDr.out]; exact ValsAt.zero _ _ _ (fun q => by cases q) (by omega)) (fun u hu => ints_one z u (List.mem_of_mem_drop hu)) (by simp <;> omega)) ?_
                            rintro v9 w3 ⟨h9, hgr⟩
                            have hrow := h7.low
                            have hB := below_gr hB hB.size hgr hrow
                            clear hgr h7 hrow
                            refine hK.out _ _ ?_ (fun hHeld => ?_)
                            · trivial
                            clear hK K
                            try simp only [Act.put, List.setIfInBounds_toArray, List.set_cons_zero, List.set_cons_succ]
                            refine wpAnyH_take (i := 12) (oi := ⟨some 3, _, _, _, _, _⟩) (v := ?_) rfl (by kernel_rfl) (by kernel_rfl) (by kernel_rfl) (fun _ _ _ h => h) (Or.inl ⟨by rfl, ?_⟩) (by exact hHeld) ?_
                            rotate_left
                            · (intro w hSw; (try dsimp only at hSw); go_simp; try (with_reducible rfl))
                            simp only [Act.put, List.setIfInBounds_toArray, List.set_cons_zero, List.set_cons_succ]
                            refine wpAnyH_done (by kernel_rfl) ?_ _
                            refine NoPanic.normal ?_
                            have HBf := Lib.hid (And.intro (HBs.out.1.trans (hB.mono HBs.out.1.size)) (HBs.out.2.trans (hB.mono HBs.out.2.size)))
                            have HVe := Lib.hid h9.vals
                            clear hB h9 hHeld
                            go_wp2_with fail
                            go_roundw
                            case rel => exact ⟨j + 1, addN z y, by omega, by go_num, HJn.out, Lib.hid (zat_ins k HAdd.out HIns.out HVe.out HZi.out HYi.out), HBf⟩
                            case measure => simp [intOf]; omega
                          refine AllReadyH.cons (o := ⟨some 66, _, _, _, _, _⟩) rfl (fun K hK => ?_) AllReadyH.nil
                          · refine stepv_slice1 32 3 rfl _ (.int .i64 y) rfl rfl (run_ints1 _) (fun g8 w3 h8 hb3 hg8 => ?_)
                            try have hne : g8 ≠ g4 := by have := h4.lt; omega
                            try have h4 := h4.step hb3 rfl
                            try have h6 := h6.next hb3
                            have hB := hB.trans (hb3.mono hB.size)
                            clear hb3 hg8
                            try dsimp only
                            refine hK.out _ _ ?_ (fun hHeld => ?_)
                            · trivial
                            clear hK K
                            try simp only [Act.put, List.setIfInBounds_toArray, List.set_cons_zero, List.set_cons_succ]
                            refine wpAnyH_ready (rs := [4]) (by kernel_rfl) (by simp) ?_
                            refine AllReadyH.cons (o := ⟨some 64, _, _, _, _, _⟩) rfl (fun K hK => ?_) AllReadyH.nil
                            refine stepv_append rfl _ _ 32 rfl _ _ rfl rfl (append_vals (E := 3) Tryd.underlying32 hi0 hz0 hz1 hz2 rfl (by decide) _ ws.heap.size _ [] ((z.map (Value.int .i64)).take k) (some ⟨b6, o6, none⟩) k _ _ (VRow.empty h4 hg4b) hB.size ((HVs.out.next hB).take k (by rw [List.length_map]; omega)) (fun u hu => ints_one z u (List.mem_of_mem_take hu)) (by simp <;> omega)) ?_
                            rintro v6 w3 ⟨h6, hgr⟩
                            try have h8 := at_keep h8 hgr (fun q => hne (by injection q with q; exact q.symm))
                            have hB := below_gr hB hB.size hgr (fun q hq => by have e : g4 = q := Option.some.inj hq; omega)
                            clear hgr h4 hg4b
                            try clear hne
                            rw [List.nil_append] at h6
                            refine hK.out _ _ ?_ (fun hHeld => ?_)
                            · trivial
                            clear hK K
                            try simp only [Act.put, List.setIfInBounds_toArray, List.set_cons_zero, List.set_cons_succ]
                            refine wpAnyH_ready (rs := [7]) (by kernel_rfl) (by simp) ?_
                            refine AllReadyH.cons (o := ⟨some 67, _, _, _, _, _⟩) rfl (fun K hK => ?_) AllReadyH.nil
                            refine stepv_append rfl _ _ 32 rfl _ _ rfl rfl (append_vals (E := 3) Tryd.underlying32 hi0 hz0 hz1 hz2 rfl (by decide) _ ws.heap.size v6 _ [(.int .i64 y)] (some ⟨g8, 0, none⟩) 1 1 _ h6 hB.size (one_vals h8) (fun u hu => by rw [List.mem_singleton.1 hu]; rfl) (by simp <;> omega)) ?_
                            rintro v7 w3 ⟨h7, hgr⟩
                            have hrow := h6.low
                            have hB := below_gr hB hB.size hgr hrow
                            clear hgr h6 h8 hrow
                            refine hK.out _ _ ?_ (fun hHeld => ?_)
                            · trivial
                            clear hK K
                            try simp only [Act.put, List.setIfInBounds_toArray, List.set_cons_zero, List.set_cons_succ]
                            refine wpAnyH_ready (rs := [11]) (by kernel_rfl) (by simp) ?_
                            refine AllReadyH.cons (o := ⟨some 71, _, _, _, _, _⟩) rfl (fun K hK => ?_) AllReadyH.nil
                            refine stepv_append rfl _ _ 32 rfl _ _ rfl rfl (append_vals (E := 3) Tryd.underlying32 hi0 hz0 hz1 hz2 rfl (by decide) _ ws.heap.size v7 _ ((z.map (Value.int .i64)).drop k) (some ⟨b6, o6, none⟩) _ _ _ h7 hB.size (by rw [HDr.out]; exact ValsAt.zero _ _ _ (fun q => by cases q) (by omega)) (fun u hu => ints_one z u (List.mem_of_mem_drop hu)) (by simp <;> omega)) ?_
                            rintro v9 w3 ⟨h9, hgr⟩
                            have hrow := h7.low
                            have hB := below_gr hB hB.size hgr hrow
                            clear hgr h7 hrow
                            refine hK.out _ _ ?_ (fun hHeld => ?_)
                            · trivial
                            clear hK K
                            try simp only [Act.put, List.setIfInBounds_toArray, List.set_cons_zero, List.set_cons_succ]
                            refine wpAnyH_take (i := 12) (oi := ⟨some 3, _, _, _, _, _⟩) (v := ?_) rfl (by kernel_rfl) (by kernel_rfl) (by kernel_rfl) (fun _ _ _ h => h) (Or.inl ⟨by rfl, ?_⟩) (by exact hHeld) ?_
                            rotate_left
                            · (intro w hSw; (try dsimp only at hSw); go_simp; try (with_reducible rfl))
                            simp only [Act.put, List.setIfInBounds_toArray, List.set_cons_zero, List.set_cons_succ]
                            refine wpAnyH_done (by kernel_rfl) ?_ _
                            refine NoPanic.normal ?_
                            have HBf := Lib.hid (And.intro (HBs.out.1.trans (hB.mono HBs.out.1.size)) (HBs.out.2.trans (hB.mono HBs.out.2.size)))
                            have HVe := Lib.hid h9.vals
                            clear hB h9 hHeld
                            go_wp2_with fail
                            go_roundw
                            case rel => exact ⟨j + 1, addN z y, by omega, by go_num, HJn.out, Lib.hid (zat_ins k HAdd.out HIns.out HVe.out HZi.out HYi.out), HBf⟩
                            case measure => simp [intOf]; omega
                        refine AllReadyH.cons (o := ⟨some 66, _, _, _, _, _⟩) rfl (fun K hK => ?_) AllReadyH.nil
                        · refine stepv_slice1 32 3 rfl _ (.int .i64 y) rfl rfl (run_ints1 _) (fun g8 w3 h8 hb3 hg8 => ?_)
                          try have hne : g8 ≠ g4 := by have := h4.lt; omega
                          try have h4 := h4.step hb3 rfl
                          try have h6 := h6.next hb3
                          have hB := hB.trans (hb3.mono hB.size)
                          clear hb3 hg8
                          try dsimp only
                          refine hK.out _ _ ?_ (fun hHeld => ?_)
                          · trivial
                          clear hK K
                          try simp only [Act.put, List.setIfInBounds_toArray, List.set_cons_zero, List.set_cons_succ]
                          refine wpAnyH_ready (rs := [0]) (by kernel_rfl) (by simp) ?_
                          refine AllReadyH.cons (o := ⟨some 60, _, _, _, _, _⟩) rfl (fun K hK => ?_) AllReadyH.nil
                          refine stepv_slice0 32 3 rfl rfl run_ints0 (fun g4 w3 h4 hb3 hg4 => ?_)
                          have hg4b : ws.heap.size ≤ g4 := Nat.le_trans hB.size hg4
                          try have hne : g8 ≠ g4 := by have := h8.lt; omega
                          try have h8 := h8.step hb3 rfl
                          have hB := hB.trans (hb3.mono hB.size)
                          clear hb3 hg4
                          try dsimp only
                          refine hK.out _ _ ?_ (fun hHeld => ?_)
                          · trivial
                          clear hK K
                          try simp only [Act.put, List.setIfInBounds_toArray, List.set_cons_zero, List.set_cons_succ]
                          refine wpAnyH_ready (rs := [4]) (by kernel_rfl) (by simp) ?_
                          refine AllReadyH.cons (o := ⟨some 64, _, _, _, _, _⟩) rfl (fun K hK => ?_) AllReadyH.nil
                          refine stepv_append rfl _ _ 32 rfl _ _ rfl rfl (append_vals (E := 3) Tryd.underlying32 hi0 hz0 hz1 hz2 rfl (by decide) _ ws.heap.size _ [] ((z.map (Value.int .i64)).take k) (some ⟨b6, o6, none⟩) k _ _ (VRow.empty h4 hg4b) hB.size ((HVs.out.next hB).take k (by rw [List.length_map]; omega)) (fun u hu => ints_one z u (List.mem_of_mem_take hu)) (by simp <;> omega)) ?_
                          rintro v6 w3 ⟨h6, hgr⟩
                          try have h8 := at_keep h8 hgr (fun q => hne (by injection q with q; exact q.symm))
                          have hB := below_gr hB hB.size hgr (fun q hq => by have e : g4 = q := Option.some.inj hq; omega)
                          clear hgr h4 hg4b
                          try clear hne
                          rw [List.nil_append] at h6
                          refine hK.out _ _ ?_ (fun hHeld => ?_)
                          · trivial
                          clear hK K
                          try simp only [Act.put, List.setIfInBounds_toArray, List.set_cons_zero, List.set_cons_succ]
                          refine wpAnyH_ready (rs := [7]) (by kernel_rfl) (by simp) ?_
                          refine AllReadyH.cons (o := ⟨some 67, _, _, _, _, _⟩) rfl (fun K hK => ?_) AllReadyH.nil
                          refine stepv_append rfl _ _ 32 rfl _ _ rfl rfl (append_vals (E := 3) Tryd.underlying32 hi0 hz0 hz1 hz2 rfl (by decide) _ ws.heap.size v6 _ [(.int .i64 y)] (some ⟨g8, 0, none⟩) 1 1 _ h6 hB.size (one_vals h8) (fun u hu => by rw [List.mem_singleton.1 hu]; rfl) (by simp <;> omega)) ?_
                          rintro v7 w3 ⟨h7, hgr⟩
                          have hrow := h6.low
                          have hB := below_gr hB hB.size hgr hrow
                          clear hgr h6 h8 hrow
                          refine hK.out _ _ ?_ (fun hHeld => ?_)
                          · trivial
                          clear hK K
                          try simp only [Act.put, List.setIfInBounds_toArray, List.set_cons_zero, List.set_cons_succ]
                          refine wpAnyH_ready (rs := [11]) (by kernel_rfl) (by simp) ?_
                          refine AllReadyH.cons (o := ⟨some 71, _, _, _, _, _⟩) rfl (fun K hK => ?_) AllReadyH.nil
                          refine stepv_append rfl _ _ 32 rfl _ _ rfl rfl (append_vals (E := 3) Tryd.underlying32 hi0 hz0 hz1 hz2 rfl (by decide) _ ws.heap.size v7 _ ((z.map (Value.int .i64)).drop k) (some ⟨b6, o6, none⟩) _ _ _ h7 hB.size (by rw [HDr.out]; exact ValsAt.zero _ _ _ (fun q => by cases q) (by omega)) (fun u hu => ints_one z u (List.mem_of_mem_drop hu)) (by simp <;> omega)) ?_
                          rintro v9 w3 ⟨h9, hgr⟩
                          have hrow := h7.low
                          have hB := below_gr hB hB.size hgr hrow
                          clear hgr h7 hrow
                          refine hK.out _ _ ?_ (fun hHeld => ?_)
                          · trivial
                          clear hK K
                          try simp only [Act.put, List.setIfInBounds_toArray, List.set_cons_zero, List.set_cons_succ]
                          refine wpAnyH_take (i := 12) (oi := ⟨some 3, _, _, _, _, _⟩) (v := ?_) rfl (by kernel_rfl) (by kernel_rfl) (by kernel_rfl) (fun _ _ _ h => h) (Or.inl ⟨by rfl, ?_⟩) (by exact hHeld) ?_
                          rotate_left
                          · (intro w hSw; (try dsimp only at hSw); go_simp; try (with_reducible rfl))
                          simp only [Act.put, List.setIfInBounds_toArray, List.set_cons_zero, List.set_cons_succ]
                          refine wpAnyH_done (by kernel_rfl) ?_ _
                          refine NoPanic.normal ?_
                          have HBf := Lib.hid (And.intro (HBs.out.1.trans (hB.mono HBs.out.1.size)) (HBs.out.2.trans (hB.mono HBs.out.2.size)))
                          have HVe := Lib.hid h9.vals
                          clear hB h9 hHeld
                          go_wp2_with fail
                          go_roundw
                          case rel => exact ⟨j + 1, addN z y, by omega, by go_num, HJn.out, Lib.hid (zat_ins k HAdd.out HIns.out HVe.out HZi.out HYi.out), HBf⟩
                          case measure => simp [intOf]; omega
                      · have hck : ¬ cu = k := hce
                        have hck2 : ¬ k = cu := by omega
                        go_wp2_with fail
                        obtain ⟨ws, hws⟩ : ∃ ws, ws = wz := ⟨_, rfl⟩
                        have HBs : Hid (Below w.heap.size w ws ∧ Below wi.heap.size wi ws) := Lib.hid (by rw [hws]; exact HB3.out)
                        have HVs : Hid (ValsAt ws (.slice (some ⟨b6, o6, none⟩) z.length cu) (z.map (Value.int .i64))) := Lib.hid (by rw [hws]; have h := HV3.out; exact h)
                        rw [← hws]
                        clear hws
                        refine wp_region_noPanic ?_
                        refine wp_region_held_drew (S := (fun _ => True)) (by kernel_rfl) (by trivial) (fun hHeld => ?_)
                        have hB : Below ws.heap.size ws ws.drew := (Below.refl _ _).drew
                        refine wpAnyH_take (i := 1) (oi := ⟨some 61, _, _, _, _, _⟩) (v := ?_) rfl (by kernel_rfl) (by kernel_rfl) (by kernel_rfl) (fun _ _ _ h => h) (Or.inl ⟨by rfl, ?_⟩) (by exact hHeld) ?_
                        rotate_left
                        · (intro w hSw; (try dsimp only at hSw); go_simp; try (with_reducible rfl))
                        simp only [Act.put, List.setIfInBounds_toArray, List.set_cons_zero, List.set_cons_succ]
                        refine wpAnyH_take (i := 2) (oi := ⟨some 62, _, _, _, _, _⟩) (v := ?_) rfl (by kernel_rfl) (by kernel_rfl) (by kernel_rfl) (fun _ _ _ h => h) (Or.inl ⟨by rfl, ?_⟩) (by exact hHeld) ?_
                        rotate_left
                        · (intro w hSw; (try dsimp only at hSw); go_simp; try (with_reducible rfl))
                        simp only [Act.put, List.setIfInBounds_toArray, List.set_cons_zero, List.set_cons_succ]
                        refine wpAnyH_take (i := 3) (oi := ⟨some 63, _, _, _, _, _⟩) (v := ?_) rfl (by kernel_rfl) (by kernel_rfl) (by kernel_rfl) (fun _ _ _ h => h) (Or.inl ⟨by rfl, ?_⟩) (by exact hHeld) ?_
                        rotate_left
                        · (intro w hSw; (try dsimp only at hSw); go_simp; try (with_reducible rfl))
                        simp only [Act.put, List.setIfInBounds_toArray, List.set_cons_zero, List.set_cons_succ]
                        refine wpAnyH_take (i := 5) (oi := ⟨some 65, _, _, _, _, _⟩) (v := ?_) rfl (by kernel_rfl) (by kernel_rfl) (by kernel_rfl) (fun _ _ _ h => h) (Or.inl ⟨by rfl, ?_⟩) (by exact hHeld) ?_
                        rotate_left
                        · (intro w hSw; (try dsimp only at hSw); go_simp; try (with_reducible rfl))
                        simp only [Act.put, List.setIfInBounds_toArray, List.set_cons_zero, List.set_cons_succ]
                        refine wpAnyH_take (i := 8) (oi := ⟨some 68, _, _, _, _, _⟩) (v := ?_) rfl (by kernel_rfl) (by kernel_rfl) (by kernel_rfl) (fun _ _ _ h => h) (Or.inl ⟨by rfl, ?_⟩) (by exact hHeld) ?_
                        rotate_left
                        · (intro w hSw; (try dsimp only at hSw); go_simp; try (with_reducible rfl))
                        simp only [Act.put, List.setIfInBounds_toArray, List.set_cons_zero, List.set_cons_succ]
                        refine wpAnyH_take (i := 9) (oi := ⟨some 69, _, _, _, _, _⟩) (v := ?_) rfl (by kernel_rfl) (by kernel_rfl) (by kernel_rfl) (fun _ _ _ h => h) (Or.inl ⟨by rfl, ?_⟩) (by exact hHeld) ?_
                        rotate_left
                        · (intro w hSw; (try dsimp only at hSw); go_simp; try (with_reducible rfl))
                        simp only [Act.put, List.setIfInBounds_toArray, List.set_cons_zero, List.set_cons_succ]
                        refine wpAnyH_take (i := 10) (oi := ⟨some 70, _, _, _, _, _⟩) (v := ?_) rfl (by kernel_rfl) (by kernel_rfl) (by kernel_rfl) (fun _ _ _ h => h) (Or.inl ⟨by rfl, ?_⟩) (by exact hHeld) ?_
                        rotate_left
                        · (intro w hSw; (try dsimp only at hSw); go_simp; try (with_reducible rfl))
                        simp only [Act.put, List.setIfInBounds_toArray, List.set_cons_zero, List.set_cons_succ]
                        refine wpAnyH_ready (rs := [0, 6]) (by kernel_rfl) (by simp) ?_
                        refine AllReadyH.cons (o := ⟨some 60, _, _, _, _, _⟩) rfl (fun K hK => ?_) ?_
                        · refine stepv_slice0 32 3 rfl rfl run_ints0 (fun g4 w3 h4 hb3 hg4 => ?_)
                          have hg4b : ws.heap.size ≤ g4 := Nat.le_trans hB.size hg4
                          try have hne : g8 ≠ g4 := by have := h8.lt; omega
                          try have h8 := h8.step hb3 rfl
                          have hB := hB.trans (hb3.mono hB.size)
                          clear hb3 hg4
                          try dsimp only
                          refine hK.out _ _ ?_ (fun hHeld => ?_)
                          · trivial
                          clear hK K
                          try simp only [Act.put, List.setIfInBounds_toArray, List.set_cons_zero, List.set_cons_succ]
                          refine wpAnyH_ready (rs := [4, 6]) (by kernel_rfl) (by simp) ?_
                          refine AllReadyH.cons (o := ⟨some 64, _, _, _, _, _⟩) rfl (fun K hK => ?_) ?_
                          · refine stepv_append rfl _ _ 32 rfl _ _ rfl rfl (append_vals (E := 3) Tryd.underlying32 hi0 hz0 hz1 hz2 rfl (by decide) _ ws.heap.size _ [] ((z.map (Value.int .i64)).take k) (some ⟨b6, o6, none⟩) k _ _ (VRow.empty h4 hg4b) hB.size ((HVs.out.next hB).take k (by rw [List.length_map]; omega)) (fun u hu => ints_one z u (List.mem_of_mem_take hu)) (by simp <;> omega)) ?_
                            rintro v6 w3 ⟨h6, hgr⟩
                            try have h8 := at_keep h8 hgr (fun q => hne (by injection q with q; exact q.symm))
                            have hB := below_gr hB hB.size hgr (fun q hq => by have e : g4 = q := Option.some.inj hq; omega)
                            clear hgr h4 hg4b
                            try clear hne
                            rw [List.nil_append] at h6
                            refine hK.out _ _ ?_ (fun hHeld => ?_)
                            · trivial
                            clear hK K
                            try simp only [Act.put, List.setIfInBounds_toArray, List.set_cons_zero, List.set_cons_succ]
                            refine wpAnyH_ready (rs := [6]) (by kernel_rfl) (by simp) ?_
                            refine AllReadyH.cons (o := ⟨some 66, _, _, _, _, _⟩) rfl (fun K hK => ?_) AllReadyH.nil
                            refine stepv_slice1 32 3 rfl _ (.int .i64 y) rfl rfl (run_ints1 _) (fun g8 w3 h8 hb3 hg8 => ?_)
                            try have hne : g8 ≠ g4 := by have := h4.lt; omega
                            try have h4 := h4.step hb3 rfl
                            try have h6 := h6.next hb3
                            have hB := hB.trans (hb3.mono hB.size)
                            clear hb3 hg8
                            try dsimp only
                            refine hK.out _ _ ?_ (fun hHeld => ?_)
                            · trivial
                            clear hK K
                            try simp only [Act.put, List.setIfInBounds_toArray, List.set_cons_zero, List.set_cons_succ]
                            refine wpAnyH_ready (rs := [7]) (by kernel_rfl) (by simp) ?_
                            refine AllReadyH.cons (o := ⟨some 67, _, _, _, _, _⟩) rfl (fun K hK => ?_) AllReadyH.nil
                            refine stepv_append rfl _ _ 32 rfl _ _ rfl rfl (append_vals (E := 3) Tryd.underlying32 hi0 hz0 hz1 hz2 rfl (by decide) _ ws.heap.size v6 _ [(.int .i64 y)] (some ⟨g8, 0, none⟩) 1 1 _ h6 hB.size (one_vals h8) (fun u hu => by rw [List.mem_singleton.1 hu]; rfl) (by simp <;> omega)) ?_
                            rintro v7 w3 ⟨h7, hgr⟩
                            have hrow := h6.low
                            have hB := below_gr hB hB.size hgr hrow
                            clear hgr h6 h8 hrow
                            refine hK.out _ _ ?_ (fun hHeld => ?_)
                            · trivial
                            clear hK K
                            try simp only [Act.put, List.setIfInBounds_toArray, List.set_cons_zero, List.set_cons_succ]
                            refine wpAnyH_ready (rs := [11]) (by kernel_rfl) (by simp) ?_
                            refine AllReadyH.cons (o := ⟨some 71, _, _, _, _, _⟩) rfl (fun K hK => ?_) AllReadyH.nil
                            refine stepv_append rfl _ _ 32 rfl _ _ rfl rfl (append_vals (E := 3) Tryd.underlying32 hi0 hz0 hz1 hz2 rfl (by decide) _ ws.heap.size v7 _ ((z.map (Value.int .i64)).drop k) (some ⟨b6, o6 + k, none⟩) _ _ _ h7 hB.size (by have h := (HVs.out.next hB).drop rfl k (cu - k) (by rw [List.length_map]; omega) rfl; rw [List.length_map] at h; exact h) (fun u hu => ints_one z u (List.mem_of_mem_drop hu)) (by simp <;> omega)) ?_
                            rintro v9 w3 ⟨h9, hgr⟩
                            have hrow := h7.low
                            have hB := below_gr hB hB.size hgr hrow
                            clear hgr h7 hrow
                            refine hK.out _ _ ?_ (fun hHeld => ?_)
                            · trivial
                            clear hK K
                            try simp only [Act.put, List.setIfInBounds_toArray, List.set_cons_zero, List.set_cons_succ]
                            refine wpAnyH_take (i := 12) (oi := ⟨some 3, _, _, _, _, _⟩) (v := ?_) rfl (by kernel_rfl) (by kernel_rfl) (by kernel_rfl) (fun _ _ _ h => h) (Or.inl ⟨by rfl, ?_⟩) (by exact hHeld) ?_
                            rotate_left
                            · (intro w hSw; (try dsimp only at hSw); go_simp; try (with_reducible rfl))
                            simp only [Act.put, List.setIfInBounds_toArray, List.set_cons_zero, List.set_cons_succ]
                            refine wpAnyH_done (by kernel_rfl) ?_ _
                            refine NoPanic.normal ?_
                            have HBf := Lib.hid (And.intro (HBs.out.1.trans (hB.mono HBs.out.1.size)) (HBs.out.2.trans (hB.mono HBs.out.2.size)))
                            have HVe := Lib.hid h9.vals
                            clear hB h9 hHeld
                            go_wp2_with fail
                            go_roundw
                            case rel => exact ⟨j + 1, addN z y, by omega, by go_num, HJn.out, Lib.hid (zat_ins k HAdd.out HIns.out HVe.out HZi.out HYi.out), HBf⟩
                            case measure => simp [intOf]; omega
                          refine AllReadyH.cons (o := ⟨some 66, _, _, _, _, _⟩) rfl (fun K hK => ?_) AllReadyH.nil
                          · refine stepv_slice1 32 3 rfl _ (.int .i64 y) rfl rfl (run_ints1 _) (fun g8 w3 h8 hb3 hg8 => ?_)
                            try have hne : g8 ≠ g4 := by have := h4.lt; omega
                            try have h4 := h4.step hb3 rfl
                            try have h6 := h6.next hb3
                            have hB := hB.trans (hb3.mono hB.size)
                            clear hb3 hg8
                            try dsimp only
                            refine hK.out _ _ ?_ (fun hHeld => ?_)
                            · trivial
                            clear hK K
                            try simp only [Act.put, List.setIfInBounds_toArray, List.set_cons_zero, List.set_cons_succ]
                            refine wpAnyH_ready (rs := [4]) (by kernel_rfl) (by simp) ?_
                            refine AllReadyH.cons (o := ⟨some 64, _, _, _, _, _⟩) rfl (fun K hK => ?_) AllReadyH.nil
                            refine stepv_append rfl _ _ 32 rfl _ _ rfl rfl (append_vals (E := 3) Tryd.underlying32 hi0 hz0 hz1 hz2 rfl (by decide) _ ws.heap.size _ [] ((z.map (Value.int .i64)).take k) (some ⟨b6, o6, none⟩) k _ _ (VRow.empty h4 hg4b) hB.size ((HVs.out.next hB).take k (by rw [List.length_map]; omega)) (fun u hu => ints_one z u (List.mem_of_mem_take hu)) (by simp <;> omega)) ?_
                            rintro v6 w3 ⟨h6, hgr⟩
                            try have h8 := at_keep h8 hgr (fun q => hne (by injection q with q; exact q.symm))
                            have hB := below_gr hB hB.size hgr (fun q hq => by have e : g4 = q := Option.some.inj hq; omega)
                            clear hgr h4 hg4b
                            try clear hne
                            rw [List.nil_append] at h6
                            refine hK.out _ _ ?_ (fun hHeld => ?_)
                            · trivial
                            clear hK K
                            try simp only [Act.put, List.setIfInBounds_toArray, List.set_cons_zero, List.set_cons_succ]
                            refine wpAnyH_ready (rs := [7]) (by kernel_rfl) (by simp) ?_
                            refine AllReadyH.cons (o := ⟨some 67, _, _, _, _, _⟩) rfl (fun K hK => ?_) AllReadyH.nil
                            refine stepv_append rfl _ _ 32 rfl _ _ rfl rfl (append_vals (E := 3) Tryd.underlying32 hi0 hz0 hz1 hz2 rfl (by decide) _ ws.heap.size v6 _ [(.int .i64 y)] (some ⟨g8, 0, none⟩) 1 1 _ h6 hB.size (one_vals h8) (fun u hu => by rw [List.mem_singleton.1 hu]; rfl) (by simp <;> omega)) ?_
                            rintro v7 w3 ⟨h7, hgr⟩
                            have hrow := h6.low
                            have hB := below_gr hB hB.size hgr hrow
                            clear hgr h6 h8 hrow
                            refine hK.out _ _ ?_ (fun hHeld => ?_)
                            · trivial
                            clear hK K
                            try simp only [Act.put, List.setIfInBounds_toArray, List.set_cons_zero, List.set_cons_succ]
                            refine wpAnyH_ready (rs := [11]) (by kernel_rfl) (by simp) ?_
                            refine AllReadyH.cons (o := ⟨some 71, _, _, _, _, _⟩) rfl (fun K hK => ?_) AllReadyH.nil
                            refine stepv_append rfl _ _ 32 rfl _ _ rfl rfl (append_vals (E := 3) Tryd.underlying32 hi0 hz0 hz1 hz2 rfl (by decide) _ ws.heap.size v7 _ ((z.map (Value.int .i64)).drop k) (some ⟨b6, o6 + k, none⟩) _ _ _ h7 hB.size (by have h := (HVs.out.next hB).drop rfl k (cu - k) (by rw [List.length_map]; omega) rfl; rw [List.length_map] at h; exact h) (fun u hu => ints_one z u (List.mem_of_mem_drop hu)) (by simp <;> omega)) ?_
                            rintro v9 w3 ⟨h9, hgr⟩
                            have hrow := h7.low
                            have hB := below_gr hB hB.size hgr hrow
                            clear hgr h7 hrow
                            refine hK.out _ _ ?_ (fun hHeld => ?_)
                            · trivial
                            clear hK K
                            try simp only [Act.put, List.setIfInBounds_toArray, List.set_cons_zero, List.set_cons_succ]
                            refine wpAnyH_take (i := 12) (oi := ⟨some 3, _, _, _, _, _⟩) (v := ?_) rfl (by kernel_rfl) (by kernel_rfl) (by kernel_rfl) (fun _ _ _ h => h) (Or.inl ⟨by rfl, ?_⟩) (by exact hHeld) ?_
                            rotate_left
                            · (intro w hSw; (try dsimp only at hSw); go_simp; try (with_reducible rfl))
                            simp only [Act.put, List.setIfInBounds_toArray, List.set_cons_zero, List.set_cons_succ]
                            refine wpAnyH_done (by kernel_rfl) ?_ _
                            refine NoPanic.normal ?_
                            have HBf := Lib.hid (And.intro (HBs.out.1.trans (hB.mono HBs.out.1.size)) (HBs.out.2.trans (hB.mono HBs.out.2.size)))
                            have HVe := Lib.hid h9.vals
                            clear hB h9 hHeld
                            go_wp2_with fail
                            go_roundw
                            case rel => exact ⟨j + 1, addN z y, by omega, by go_num, HJn.out, Lib.hid (zat_ins k HAdd.out HIns.out HVe.out HZi.out HYi.out), HBf⟩
                            case measure => simp [intOf]; omega
                        refine AllReadyH.cons (o := ⟨some 66, _, _, _, _, _⟩) rfl (fun K hK => ?_) AllReadyH.nil
                        · refine stepv_slice1 32 3 rfl _ (.int .i64 y) rfl rfl (run_ints1 _) (fun g8 w3 h8 hb3 hg8 => ?_)
                          try have hne : g8 ≠ g4 := by have := h4.lt; omega
                          try have h4 := h4.step hb3 rfl
                          try have h6 := h6.next hb3
                          have hB := hB.trans (hb3.mono hB.size)
                          clear hb3 hg8
                          try dsimp only
                          refine hK.out _ _ ?_ (fun hHeld => ?_)
                          · trivial
                          clear hK K
                          try simp only [Act.put, List.setIfInBounds_toArray, List.set_cons_zero, List.set_cons_succ]
                          refine wpAnyH_ready (rs := [0]) (by kernel_rfl) (by simp) ?_
                          refine AllReadyH.cons (o := ⟨some 60, _, _, _, _, _⟩) rfl (fun K hK => ?_) AllReadyH.nil
                          refine stepv_slice0 32 3 rfl rfl run_ints0 (fun g4 w3 h4 hb3 hg4 => ?_)
                          have hg4b : ws.heap.size ≤ g4 := Nat.le_trans hB.size hg4
                          try have hne : g8 ≠ g4 := by have := h8.lt; omega
                          try have h8 := h8.step hb3 rfl
                          have hB := hB.trans (hb3.mono hB.size)
                          clear hb3 hg4
                          try dsimp only
                          refine hK.out _ _ ?_ (fun hHeld => ?_)
                          · trivial
                          clear hK K
                          try simp only [Act.put, List.setIfInBounds_toArray, List.set_cons_zero, List.set_cons_succ]
                          refine wpAnyH_ready (rs := [4]) (by kernel_rfl) (by simp) ?_
                          refine AllReadyH.cons (o := ⟨some 64, _, _, _, _, _⟩) rfl (fun K hK => ?_) AllReadyH.nil
                          refine stepv_append rfl _ _ 32 rfl _ _ rfl rfl (append_vals (E := 3) Tryd.underlying32 hi0 hz0 hz1 hz2 rfl (by decide) _ ws.heap.size _ [] ((z.map (Value.int .i64)).take k) (some ⟨b6, o6, none⟩) k _ _ (VRow.empty h4 hg4b) hB.size ((HVs.out.next hB).take k (by rw [List.length_map]; omega)) (fun u hu => ints_one z u (List.mem_of_mem_take hu)) (by simp <;> omega)) ?_
                          rintro v6 w3 ⟨h6, hgr⟩
                          try have h8 := at_keep h8 hgr (fun q => hne (by injection q with q; exact q.symm))
                          have hB := below_gr hB hB.size hgr (fun q hq => by have e : g4 = q := Option.some.inj hq; omega)
                          clear hgr h4 hg4b
                          try clear hne
                          rw [List.nil_append] at h6
                          refine hK.out _ _ ?_ (fun hHeld => ?_)
                          · trivial
                          clear hK K
                          try simp only [Act.put, List.setIfInBounds_toArray, List.set_cons_zero, List.set_cons_succ]
                          refine wpAnyH_ready (rs := [7]) (by kernel_rfl) (by simp) ?_
                          refine AllReadyH.cons (o := ⟨some 67, _, _, _, _, _⟩) rfl (fun K hK => ?_) AllReadyH.nil
                          refine stepv_append rfl _ _ 32 rfl _ _ rfl rfl (append_vals (E := 3) Tryd.underlying32 hi0 hz0 hz1 hz2 rfl (by decide) _ ws.heap.size v6 _ [(.int .i64 y)] (some ⟨g8, 0, none⟩) 1 1 _ h6 hB.size (one_vals h8) (fun u hu => by rw [List.mem_singleton.1 hu]; rfl) (by simp <;> omega)) ?_
                          rintro v7 w3 ⟨h7, hgr⟩
                          have hrow := h6.low
                          have hB := below_gr hB hB.size hgr hrow
                          clear hgr h6 h8 hrow
                          refine hK.out _ _ ?_ (fun hHeld => ?_)
                          · trivial
                          clear hK K
                          try simp only [Act.put, List.setIfInBounds_toArray, List.set_cons_zero, List.set_cons_succ]
                          refine wpAnyH_ready (rs := [11]) (by kernel_rfl) (by simp) ?_
                          refine AllReadyH.cons (o := ⟨some 71, _, _, _, _, _⟩) rfl (fun K hK => ?_) AllReadyH.nil
                          refine stepv_append rfl _ _ 32 rfl _ _ rfl rfl (append_vals (E := 3) Tryd.underlying32 hi0 hz0 hz1 hz2 rfl (by decide) _ ws.heap.size v7 _ ((z.map (Value.int .i64)).drop k) (some ⟨b6, o6 + k, none⟩) _ _ _ h7 hB.size (by have h := (HVs.out.next hB).drop rfl k (cu - k) (by rw [List.length_map]; omega) rfl; rw [List.length_map] at h; exact h) (fun u hu => ints_one z u (List.mem_of_mem_drop hu)) (by simp <;> omega)) ?_
                          rintro v9 w3 ⟨h9, hgr⟩
                          have hrow := h7.low
                          have hB := below_gr hB hB.size hgr hrow
                          clear hgr h7 hrow
                          refine hK.out _ _ ?_ (fun hHeld => ?_)
                          · trivial
                          clear hK K
                          try simp only [Act.put, List.setIfInBounds_toArray, List.set_cons_zero, List.set_cons_succ]
                          refine wpAnyH_take (i := 12) (oi := ⟨some 3, _, _, _, _, _⟩) (v := ?_) rfl (by kernel_rfl) (by kernel_rfl) (by kernel_rfl) (fun _ _ _ h => h) (Or.inl ⟨by rfl, ?_⟩) (by exact hHeld) ?_
                          rotate_left
                          · (intro w hSw; (try dsimp only at hSw); go_simp; try (with_reducible rfl))
                          simp only [Act.put, List.setIfInBounds_toArray, List.set_cons_zero, List.set_cons_succ]
                          refine wpAnyH_done (by kernel_rfl) ?_ _
                          refine NoPanic.normal ?_
                          have HBf := Lib.hid (And.intro (HBs.out.1.trans (hB.mono HBs.out.1.size)) (HBs.out.2.trans (hB.mono HBs.out.2.size)))
                          have HVe := Lib.hid h9.vals
                          clear hB h9 hHeld
                          go_wp2_with fail
                          go_roundw
                          case rel => exact ⟨j + 1, addN z y, by omega, by go_num, HJn.out, Lib.hid (zat_ins k HAdd.out HIns.out HVe.out HZi.out HYi.out), HBf⟩
                          case measure => simp [intOf]; omega
              · have HAdd : Hid (addN z y = z) := Lib.hid (by unfold addN; rw [HBe.out]; rfl)
                go_wp2_with fail
                go_roundw
                case rel => exact ⟨j + 1, z, by omega, by go_num, by rw [← HJn.out, HAdd.out], Lib.hid ⟨HV3.out, HZi.out, HVn.out⟩, HB3⟩
                case measure => simp [intOf]; omega
            · obtain rfl : j = p.length := by omega
              have HZe : Hid (z = p.foldl addN z1) := Lib.hid (by rw [hze, List.take_length])
              clear hze
              go_wp2_with fail
              refine ⟨⟨i2 + 1, z, by omega, by go_num, by rw [HE2.out, List.foldl_append, ← HZ1.out]; exact HZe.out, HV, Lib.hid (HB2.out.trans (HB3.out.2.mono HB2.out.size))⟩, by simp [intOf]; omega⟩
        · obtain rfl : i2 = f.length := by omega
          have HZe : Hid (z1 = f.flatten.foldl addN z0) := Lib.hid (by rw [hz1e, List.take_length])
          clear hz1e
          go_wp2_with fail
          refine ⟨⟨i1 + 1, z1, by omega, by go_num, by rw [HE1.out, List.flatten_append, List.foldl_append, ← HZ0.out]; exact HZe.out, HV, Lib.hid (HB.out.trans (HB2.out.mono HB.out.size))⟩, by simp [intOf]; omega⟩
    · obtain rfl : i1 = fs.length := by omega
      go_wp2_with fail
      go_ret
      refine ⟨u3, rfl, ?_, HB.out⟩
      have := HV.out
      rw [hz0e, List.take_length] at this
      exact this

end Go.Proofs.YtehokjaojanieaaDoor
