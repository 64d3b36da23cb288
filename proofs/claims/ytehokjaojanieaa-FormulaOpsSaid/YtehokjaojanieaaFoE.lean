/- package formula: append of any row; slices.Grow of nil, slices.Concat, of whole numbers and of parts. -/
import Derived.Test.YtehokjaojanieaaFoC
import Derived.Lib.AppendZeros
namespace Go.Proofs.Ytehokjaojanieaa
open Go.RowKit
set_option linter.unusedVariables false
set_option linter.unusedSimpArgs false

/-- A slice that is read: m elements of sz cells, ys. -/
def Src (w : World) (sz : Nat) (v : Value) (m : Nat) (ys : List Value) : Prop :=
  ∃ A c, v = .slice A m c ∧ m ≤ c ∧ c ≤ 9223372036854775807 ∧ ys.length = m * sz ∧ (∀ u ∈ ys, u.oneCell' = true) ∧ (0 < m → ∃ b off, A = some ⟨b, off, none⟩ ∧ b < w.heap.size ∧ ∀ j u, ys[j]? = some u → w.cell? ⟨b, off + j, none⟩ = some u)
theorem Src.next {w w' : World} {sz : Nat} {v : Value} {m : Nat} {ys : List Value} (h : Src w sz v m ys) (hb : Below w.heap.size w w') : Src w' sz v m ys := by
  obtain ⟨A, c, h1, h2, h3, h4, h5, h6⟩ := h
  refine ⟨A, c, h1, h2, h3, h4, h5, fun h0 => ?_⟩
  obtain ⟨b, off, e, hlt, r⟩ := h6 h0
  exact ⟨b, off, e, Nat.lt_of_lt_of_le hlt hb.size, fun j u hu => ((bcell hb).1 b _ hlt).trans (r j u hu)⟩
theorem IntsAt.src {w : World} {v : Value} {l : List Int} (h : IntsAt w v l) : Src w 1 v l.length (l.map (Value.int .i64)) := by
  obtain ⟨A, c, h1, h2, h3, _, h5⟩ := h
  refine ⟨A, c, h1, h2, h3, by simp, fun u hu => ?_, fun h0 => ?_⟩
  · obtain ⟨x, _, rfl⟩ := List.mem_map.1 hu; rfl
  · obtain ⟨b, off, e, hlt, r⟩ := h5 h0
    refine ⟨b, off, e, hlt, fun j u hu => ?_⟩
    rw [List.getElem?_map] at hu
    obtain ⟨x, hx, rfl⟩ := Option.map_eq_some_iff.1 hu
    obtain ⟨hj, rfl⟩ := List.getElem?_eq_some_iff.1 hx
    rw [r j hj, inAt_lt hj]
theorem PtOk.one {w : World} {R : Nat → Prop} {x : Pt} (h : PtOk w R x) : x.v.oneCell' = true := by obtain ⟨⟨A, c, e, _⟩, _⟩ := h; rw [e]; rfl
theorem flatp_one {xs : List Pt} (h : ∀ x ∈ xs, x.v.oneCell' = true) : ∀ u ∈ xs.flatMap encP, u.oneCell' = true := by
  intro u hu
  obtain ⟨x, hx, hu⟩ := List.mem_flatMap.1 hu
  simp only [encP, List.mem_cons, List.not_mem_nil, or_false] at hu
  rcases hu with rfl | rfl
  · exact h x hx
  · rfl
theorem PsAt.src {w : World} {v : Value} {xs : List Pt} (h : PsAt w v xs) : Src w 2 v xs.length (xs.flatMap encP) := by
  obtain ⟨⟨A, c, h1, h2, h3, h5⟩, h4⟩ := h
  refine ⟨A, c, h1, h2, h3, flatp_len xs, flatp_one (fun x hx => (h4 x hx).one), fun h0 => ?_⟩
  obtain ⟨g, cap, e, hc, hr⟩ := h5 h0
  refine ⟨g, 0, e, hr.lt, fun j u hu => ?_⟩
  have hj : j < xs.length * 2 := by rw [← flatp_len]; exact (List.getElem?_eq_some_iff.1 hu).1
  have hk : j / 2 < xs.length := by omega
  obtain ⟨a, b⟩ := hr.cell (j := j / 2) (List.getElem?_eq_getElem hk)
  obtain ⟨a', b'⟩ := flatp_at xs (j / 2) hk
  obtain ⟨k, hkk⟩ : ∃ k, j / 2 = k := ⟨_, rfl⟩
  rw [Nat.zero_add]
  rcases Nat.mod_two_eq_zero_or_one j with e | e
  · obtain rfl : j = k * 2 := by omega
    simp only [hkk] at a a'
    rw [a, ← a', hu]
  · obtain rfl : j = k * 2 + 1 := by omega
    simp only [hkk] at b b'
    rw [b, ← b', hu]
set_option maxRecDepth 100000 in
/-- append of a slice to a row of the call's own. -/
theorem append_src {T E : TypeId} {i : TypeInfo} {z : Value} {sz bytes : Nat} (hT : Try.prog.underlying T = some (.slice E)) (hi : Try.prog.info? E = some i) (hz : i.zero = some z) (hsz : i.size = sz) (hby : i.bytes = bytes) (hzs : z.cells.size = sz) (hs0 : 0 < sz) (hb64 : bytes ≤ 64)
    (w : World) (base : Nat) (v : Value) (n : Nat) (xs : List Value) (u : Value) (m : Nat) (ys : List Value) (ty : TypeId) (h6 : w.ownsRow base E sz v n xs) (hbw : base ≤ w.heap.size) (hI : Src w sz u m ys) (hl : n + m ≤ 4000000) :
    ∃ v' w', (Builtin.append_ #[T, T] ty #[v, u]).run Try.prog w = .ok v' w' ∧ w'.ownsRow base E sz v' (n + m) (xs ++ ys) ∧ w.grownBy w' v.ownBlock ∧ (v'.ownBlock = v.ownBlock ∨ v'.ownBlock = some w.heap.size) := by
  obtain ⟨A, c, rfl, h2, _, h4, h1, h3⟩ := hI
  cases A with
  | none =>
    have h0 : m = 0 := by
      by_cases h0 : 0 < m
      · obtain ⟨b, off, e, _⟩ := h3 h0; cases e
      · omega
    subst h0
    have hy : ys = [] := List.eq_nil_of_length_eq_zero (by omega)
    subst hy
    have hr : (Builtin.append_ #[T, T] ty #[v, .slice none 0 c]).run Try.prog w = .ok v w := run_append_owned_none (P := Try.prog) (w := w) base T ty E i sz hT hi v n xs h6
    exact ⟨v, w, hr, by rw [List.append_nil]; exact h6, ⟨rfl, rfl, rfl, Nat.le_refl _, fun _ _ _ => rfl⟩, .inl rfl⟩
  | some ad =>
    obtain ⟨v', w', hr, q2, q3, _, q5⟩ := run_append_own_at (P := Try.prog) w base T ty E i z sz bytes hT hi hz hsz hby hzs hs0 v n xs h6 ad m c ys h4 (fun j u hu => by
      have hm : 0 < m := by
        by_cases h0 : 0 < m
        · exact h0
        · have := (List.getElem?_eq_some_iff.1 hu).1
          have : m * sz = 0 := by rw [show m = 0 by omega, Nat.zero_mul]
          omega
      obtain ⟨b, off, e, _, hc⟩ := h3 hm
      injection e with e
      subst e
      rw [show (⟨b, off, none⟩ : Addr).add j = ⟨b, off + j, none⟩ by unfold Addr.add; split <;> simp_all]
      exact hc j u hu) h1 (by unfold maxLen; omega) (by have := Nat.mul_le_mul hl hb64; omega) hbw
    exact ⟨v', w', hr, q2, q3, q5⟩
/-- A row of slices, each of elements of sz cells. -/
def SrcsAt (w : World) (sz : Nat) (v : Value) (ss : List (Nat × List Value)) : Prop :=
  ∃ A c, v = .slice A ss.length c ∧ ss.length ≤ c ∧ c ≤ 9223372036854775807 ∧ (0 < ss.length → ∃ b off, A = some ⟨b, off, none⟩ ∧ b < w.heap.size ∧ ∀ j (h : j < ss.length), ∃ u, w.cell? ⟨b, off + j, none⟩ = some u ∧ Src w sz u ss[j].1 ss[j].2)
theorem SrcsAt.next {w w' : World} {sz : Nat} {v : Value} {ss : List (Nat × List Value)} (h : SrcsAt w sz v ss) (hb : Below w.heap.size w w') : SrcsAt w' sz v ss := by
  obtain ⟨A, c, h1, h2, h3, h6⟩ := h
  refine ⟨A, c, h1, h2, h3, fun h0 => ?_⟩
  obtain ⟨b, off, e, hlt, r⟩ := h6 h0
  refine ⟨b, off, e, Nat.lt_of_lt_of_le hlt hb.size, fun j hj => ?_⟩
  obtain ⟨u, hu, hs⟩ := r j hj
  exact ⟨u, ((bcell hb).1 b _ hlt).trans hu, hs.next hb⟩
theorem SrcsAt.at {w : World} {sz : Nat} {A : Option Addr} {n c : Nat} {ss : List (Nat × List Value)} (h : SrcsAt w sz (.slice A n c) ss) (j : Nat) (hj : j < ss.length) :
    ∃ b off B m d, A = some ⟨b, off, none⟩ ∧ b < w.heap.size ∧ w.cell? ⟨b, off + j, none⟩ = some (.slice B m d) ∧ m = ss[j].1 ∧ Src w sz (.slice B m d) ss[j].1 ss[j].2 := by
  obtain ⟨A', c', e, h2, h3, h4⟩ := h
  injection e with e1 _ _
  subst e1
  obtain ⟨b, off, e, hb, r⟩ := h4 (by omega)
  obtain ⟨u, hu, hs⟩ := r j hj
  obtain ⟨B, d, rfl, _⟩ := id hs
  exact ⟨b, off, B, _, d, e, hb, hu, rfl, hs⟩
theorem SrcsAt.len {w : World} {sz : Nat} {A : Option Addr} {n c : Nat} {ss : List (Nat × List Value)} (h : SrcsAt w sz (.slice A n c) ss) : n = ss.length ∧ ss.length ≤ c ∧ c ≤ 9223372036854775807 := by
  obtain ⟨A', c', e, h2, h3, h4⟩ := h
  injection e with _ e2 e3
  subst e2 e3
  exact ⟨rfl, h2, h3⟩
def sumS (ss : List (Nat × List Value)) : Nat := (ss.map (·.1)).sum
def catS (ss : List (Nat × List Value)) : List Value := (ss.map (·.2)).flatten
theorem sum_take {ss : List (Nat × List Value)} {i : Nat} (h : i < ss.length) : sumS (ss.take (i + 1)) = sumS (ss.take i) + ss[i].1 := by
  unfold sumS; rw [take_step ss i h, List.map_append, List.sum_append]; simp
theorem cat_take {ss : List (Nat × List Value)} {i : Nat} (h : i < ss.length) : catS (ss.take (i + 1)) = catS (ss.take i) ++ ss[i].2 := by
  unfold catS; rw [take_step ss i h, List.map_append, List.flatten_append]; simp
theorem sum_le {ss : List (Nat × List Value)} (i : Nat) : sumS (ss.take i) ≤ sumS ss := by
  conv => rhs; rw [← List.take_append_drop i ss]
  unfold sumS; rw [List.map_append, List.sum_append]; omega
theorem FmAt.srcs {w : World} {v : Value} {f : Fm} (h : FmAt w v f) : SrcsAt w 1 v (f.map (fun p => (p.length, p.map (Value.int .i64)))) := by
  obtain ⟨A, c, h1, h2, h3, h4⟩ := h
  refine ⟨A, c, by rw [List.length_map]; exact h1, by rw [List.length_map]; exact h2, h3, fun h0 => ?_⟩
  rw [List.length_map] at h0
  obtain ⟨b, off, e, hb, r⟩ := h4 h0
  refine ⟨b, off, e, hb, fun j hj => ?_⟩
  rw [List.length_map] at hj
  obtain ⟨u, hu, hi⟩ := r j hj
  refine ⟨u, hu, ?_⟩
  rw [List.getElem_map, ← paAt_lt hj]
  exact hi.src
theorem fm_sum (f : Fm) : sumS (f.map (fun p => (p.length, p.map (Value.int .i64)))) = f.flatten.length := by
  unfold sumS; rw [List.map_map, List.length_flatten]; rfl
theorem fm_cat (f : Fm) : catS (f.map (fun p => (p.length, p.map (Value.int .i64)))) = f.flatten.map (Value.int .i64) := by
  unfold catS; rw [List.map_map, List.map_flatten]; rfl
theorem info_int1 : (Try.prog.info? 3).map (fun i => (i.zero, i.size, i.bytes)) = some (some (.int .i64 0), 1, 8) := by kernel_rfl

set_option maxRecDepth 100000 in
set_option maxHeartbeats 4000000 in
theorem fGrowI (n : Nat) (w : World) (hn : n ≤ 4000000) : Calls Try.prog 52 #[.slice none 0 0, .int .i64 n] w fun e w' => ∃ v, e = .returned v ∧ w'.ownsRow w.heap.size 3 1 v 0 [] ∧ Below w.heap.size w w' := by
  go_enter Try.func52, Try.ntmps52
  have h1 : ¬ ((n : Int) < 0) := by omega
  by_cases h0 : 0 < n
  · have h2 : (n : Int) > 0 := by omega
    obtain ⟨i, hi, hz, hs, hby⟩ := info_parts info_int1
    have hr := fun ty => Lib.run_append_nil_zeros (P := Try.prog) w 34 3 ty 3 i _ .i64 .i64 Try.underlying34 Try.underlying3 hi hz n h0 (by omega) (by omega) (by rw [hby]; omega)
    have hge := grownCap_ge w n 0 3
    have hle := grownCap_le_maxLen w n 0 3 (by unfold maxLen; omega)
    obtain ⟨G, hG⟩ : ∃ G, grownCap w n 0 3 = G := ⟨_, rfl⟩
    rw [hG] at hr hge hle
    have hG63 : G ≤ 9223372036854775807 := by unfold maxLen at hle; omega
    have HLE := Lib.hid hle
    have HS := Lib.hid hs
    have HZ := Lib.hid hz
    clear hG hle hi hz hs hby
    have hn2 : (0 : Int) ≤ (n : Int) := by omega
    go_wp2_with (at_builtin; refine Lib.wpList_append_run _ rfl _ _ _ _ rfl _ _ rfl rfl _ _ (hr _) ?_)
    go_ret
    refine ⟨_, rfl, ?_, ((Below.refl _ w).drew).alloc (Nat.le_refl _) _⟩
    refine World.ownsRow_made w.drew _ _ (Nat.le_refl _) HLE.out ?_
    rw [Array.size_append, size_zeroCells, size_zeroCells, ← Nat.add_mul]
    simp [Value.cells]
    omega
  · obtain rfl : n = 0 := by omega
    go_wp2_with fail
    go_ret
    exact ⟨_, rfl, World.ownsRow_nil _ _ _ _, Below.refl _ _⟩

set_option maxRecDepth 100000 in
set_option maxHeartbeats 4000000 in
theorem fConcatI (ss : List (Nat × List Value)) (A : Option Addr) (n c : Nat) (w : World) (h : SrcsAt w 1 (.slice A n c) ss) (hl : sumS ss ≤ 4000000) :
    Calls Try.prog 32 #[.slice A n c] w fun e w' => ∃ v, e = .returned v ∧ w'.ownsRow w.heap.size 3 1 v (sumS ss) (catS ss) ∧ Below w.heap.size w w' := by
  have HI := Lib.hid h
  obtain ⟨hn, hc1, hc2⟩ := h.len
  subst hn
  have HL := Lib.hid hl
  clear h hl
  go_enter Try.func32, Try.ntmps32
  go_wp2_with fail
  go_loopw [3, 11] (fun u v wr => ∃ i s : Nat, i ≤ ss.length ∧ v = .int .i64 i ∧ u = .int .i64 s ∧ w = wr ∧ Hid (s = sumS (ss.take i))) (fun _ v _ => ss.length - (intOf v).toNat)
  case atStart => exact ⟨0, 0, Nat.zero_le _, rfl, rfl, rfl, Lib.hid rfl⟩
  case round =>
    obtain ⟨i, s, hi, rfl, rfl, rfl, HN⟩ := hrel
    have hs4 : s ≤ 4000000 := by have := sum_le (ss := ss) i; have := HL.out; have := HN.out; omega
    by_cases hlt : i < ss.length
    · have h1 : (0 : Int) ≤ (i : Int) := by omega
      have h2 : (i : Int) < (ss.length : Int) := by omega
      obtain ⟨b, off, B, m, d, rfl, _, q1, hm, _⟩ := HI.out.at i hlt
      have hst := Lib.hid (sum_take hlt)
      rw [← hm] at hst
      have hs5 : s + m ≤ 4000000 := by have := sum_le (ss := ss) (i + 1); have := HL.out; have := HN.out; have := hst.out; omega
      have HM := Lib.hid hm
      clear hm
      have h3 : ¬ ((s : Int) + (m : Int) < 0) := by omega
      go_wp2_with fail
      refine ⟨⟨i + 1, s + m, by omega, by go_num, by go_num, by first | rfl | trivial, Lib.hid (by rw [hst.out, HN.out])⟩, by simp [intOf]; omega⟩
    · obtain rfl : i = ss.length := by omega
      have HS : Hid (s = sumS ss) := Lib.hid (by have := HN.out; rwa [List.take_length] at this)
      go_wp2_with fail
      refine (fGrowI s _ hs4).mono ?_
      rintro e w3 ⟨v3, rfl, hown, hb3⟩
      have HO := Lib.hid hown
      have HB := Lib.hid hb3
      clear hown hb3
      go_wp2_with fail
      go_loopw [6, 27] (fun u v wr => ∃ i s : Nat, i ≤ ss.length ∧ v = .int .i64 i ∧ Hid (wr.ownsRow w.heap.size 3 1 u s (catS (ss.take i))) ∧ Hid (s = sumS (ss.take i)) ∧ Hid (Below w.heap.size w wr)) (fun _ v _ => ss.length - (intOf v).toNat)
      case atStart => exact ⟨0, 0, Nat.zero_le _, rfl, HO, Lib.hid rfl, HB⟩
      case round =>
        obtain ⟨i, s2, hi2, rfl, HO, HN2, HB⟩ := hrel
        by_cases hlt : i < ss.length
        · have h1 : (0 : Int) ≤ (i : Int) := by omega
          have h2 : (i : Int) < (ss.length : Int) := by omega
          obtain ⟨b, off, B, m, d, rfl, _, q1, hm, hsrc⟩ := (HI.out.next HB.out).at i hlt
          have hst := Lib.hid (sum_take hlt)
          have hct := Lib.hid (cat_take hlt)
          have hle : s2 + ss[i].1 ≤ 4000000 := by have := sum_le (ss := ss) (i + 1); have := HL.out; have := HN2.out; have := hst.out; omega
          obtain ⟨ti, hti, htz, hts, htb⟩ := info_parts info_int1
          obtain ⟨v', w', hr, o1, o2, _⟩ := append_src (T := 34) (E := 3) Try.underlying34 hti htz hts htb rfl (by decide) (by decide) _ w.heap.size _ s2 _ _ _ _ 34 HO.out HB.out.size hsrc hle
          have hlow := World.ownsRow.lt HO.out
          have O1 := Lib.hid o1
          have O2 := Lib.hid (below_gr HB.out HB.out.size o2 (fun k e => (hlow k e).1))
          have HR := Lib.hid hr
          have HM := Lib.hid hm
          clear o1 o2 hr hlow hti htz hts htb hsrc hm hle
          go_wp2_with (first | (at_builtin; refine Lib.wpList_append_run _ rfl _ _ _ _ rfl _ _ rfl rfl v' w' HR.out ?_) | fail)
          refine ⟨⟨i + 1, s2 + ss[i].1, by omega, by go_num, Lib.hid (by rw [hct.out]; exact O1.out), Lib.hid (by rw [hst.out, HN2.out]), O2⟩, by simp [intOf]; omega⟩
        · obtain rfl : i = ss.length := by omega
          go_wp2_with fail
          go_ret
          have hO := HO.out
          have hN := HN2.out
          rw [List.take_length] at hO hN
          rw [hN] at hO
          exact ⟨_, rfl, hO, HB.out⟩

set_option maxRecDepth 100000 in
set_option maxHeartbeats 4000000 in
theorem fGrowP (n : Nat) (w : World) (hn : n ≤ 4000000) : Calls Try.prog 50 #[.slice none 0 0, .int .i64 n] w fun e w' => ∃ v, e = .returned v ∧ w'.ownsRow w.heap.size 50 2 v 0 [] ∧ Below w.heap.size w w' := by
  go_enter Try.func50, Try.ntmps50
  have h1 : ¬ ((n : Int) < 0) := by omega
  by_cases h0 : 0 < n
  · have h2 : (n : Int) > 0 := by omega
    obtain ⟨i, hi, hz, hs, hby⟩ := info_parts info_part
    have hr := fun ty => Lib.run_append_nil_zeros (P := Try.prog) w 44 3 ty 50 i _ .i64 .i64 Try.underlying44 Try.underlying3 hi hz n h0 (by omega) (by omega) (by rw [hby]; omega)
    have hge := grownCap_ge w n 0 50
    have hle := grownCap_le_maxLen w n 0 50 (by unfold maxLen; omega)
    obtain ⟨G, hG⟩ : ∃ G, grownCap w n 0 50 = G := ⟨_, rfl⟩
    rw [hG] at hr hge hle
    have hG63 : G ≤ 9223372036854775807 := by unfold maxLen at hle; omega
    have HLE := Lib.hid hle
    have HS := Lib.hid hs
    have HZ := Lib.hid hz
    clear hG hle hi hz hs hby
    have hn2 : (0 : Int) ≤ (n : Int) := by omega
    go_wp2_with (at_builtin; refine Lib.wpList_append_run _ rfl _ _ _ _ rfl _ _ rfl rfl _ _ (hr _) ?_)
    go_ret
    refine ⟨_, rfl, ?_, ((Below.refl _ w).drew).alloc (Nat.le_refl _) _⟩
    refine World.ownsRow_made w.drew _ _ (Nat.le_refl _) HLE.out ?_
    rw [Array.size_append, size_zeroCells, size_zeroCells, ← Nat.add_mul]
    simp [Value.cells, partZero]
    omega
  · obtain rfl : n = 0 := by omega
    go_wp2_with fail
    go_ret
    exact ⟨_, rfl, World.ownsRow_nil _ _ _ _, Below.refl _ _⟩

set_option maxRecDepth 100000 in
set_option maxHeartbeats 4000000 in
theorem fConcatP (ss : List (Nat × List Value)) (A : Option Addr) (n c : Nat) (w : World) (h : SrcsAt w 2 (.slice A n c) ss) (hl : sumS ss ≤ 4000000) :
    Calls Try.prog 26 #[.slice A n c] w fun e w' => ∃ v, e = .returned v ∧ w'.ownsRow w.heap.size 50 2 v (sumS ss) (catS ss) ∧ Below w.heap.size w w' := by
  have HI := Lib.hid h
  obtain ⟨hn, hc1, hc2⟩ := h.len
  subst hn
  have HL := Lib.hid hl
  clear h hl
  go_enter Try.func26, Try.ntmps26
  go_wp2_with fail
  go_loopw [3, 11] (fun u v wr => ∃ i s : Nat, i ≤ ss.length ∧ v = .int .i64 i ∧ u = .int .i64 s ∧ w = wr ∧ Hid (s = sumS (ss.take i))) (fun _ v _ => ss.length - (intOf v).toNat)
  case atStart => exact ⟨0, 0, Nat.zero_le _, rfl, rfl, rfl, Lib.hid rfl⟩
  case round =>
    obtain ⟨i, s, hi, rfl, rfl, rfl, HN⟩ := hrel
    have hs4 : s ≤ 4000000 := by have := sum_le (ss := ss) i; have := HL.out; have := HN.out; omega
    by_cases hlt : i < ss.length
    · have h1 : (0 : Int) ≤ (i : Int) := by omega
      have h2 : (i : Int) < (ss.length : Int) := by omega
      obtain ⟨b, off, B, m, d, rfl, _, q1, hm, _⟩ := HI.out.at i hlt
      have hst := Lib.hid (sum_take hlt)
      rw [← hm] at hst
      have hs5 : s + m ≤ 4000000 := by have := sum_le (ss := ss) (i + 1); have := HL.out; have := HN.out; have := hst.out; omega
      have HM := Lib.hid hm
      clear hm
      have h3 : ¬ ((s : Int) + (m : Int) < 0) := by omega
      go_wp2_with fail
      refine ⟨⟨i + 1, s + m, by omega, by go_num, by go_num, by first | rfl | trivial, Lib.hid (by rw [hst.out, HN.out])⟩, by simp [intOf]; omega⟩
    · obtain rfl : i = ss.length := by omega
      have HS : Hid (s = sumS ss) := Lib.hid (by have := HN.out; rwa [List.take_length] at this)
      go_wp2_with fail
      refine (fGrowP s _ hs4).mono ?_
      rintro e w3 ⟨v3, rfl, hown, hb3⟩
      have HO := Lib.hid hown
      have HB := Lib.hid hb3
      clear hown hb3
      go_wp2_with fail
      go_loopw [6, 27] (fun u v wr => ∃ i s : Nat, i ≤ ss.length ∧ v = .int .i64 i ∧ Hid (wr.ownsRow w.heap.size 50 2 u s (catS (ss.take i))) ∧ Hid (s = sumS (ss.take i)) ∧ Hid (Below w.heap.size w wr)) (fun _ v _ => ss.length - (intOf v).toNat)
      case atStart => exact ⟨0, 0, Nat.zero_le _, rfl, HO, Lib.hid rfl, HB⟩
      case round =>
        obtain ⟨i, s2, hi2, rfl, HO, HN2, HB⟩ := hrel
        by_cases hlt : i < ss.length
        · have h1 : (0 : Int) ≤ (i : Int) := by omega
          have h2 : (i : Int) < (ss.length : Int) := by omega
          obtain ⟨b, off, B, m, d, rfl, _, q1, hm, hsrc⟩ := (HI.out.next HB.out).at i hlt
          have hst := Lib.hid (sum_take hlt)
          have hct := Lib.hid (cat_take hlt)
          have hle : s2 + ss[i].1 ≤ 4000000 := by have := sum_le (ss := ss) (i + 1); have := HL.out; have := HN2.out; have := hst.out; omega
          obtain ⟨ti, hti, htz, hts, htb⟩ := info_parts info_part
          obtain ⟨v', w', hr, o1, o2, _⟩ := append_src (T := 44) (E := 50) Try.underlying44 hti htz hts htb rfl (by decide) (by decide) _ w.heap.size _ s2 _ _ _ _ 44 HO.out HB.out.size hsrc hle
          have hlow := World.ownsRow.lt HO.out
          have O1 := Lib.hid o1
          have O2 := Lib.hid (below_gr HB.out HB.out.size o2 (fun k e => (hlow k e).1))
          have HR := Lib.hid hr
          have HM := Lib.hid hm
          clear o1 o2 hr hlow hti htz hts htb hsrc hm hle
          go_wp2_with (first | (at_builtin; refine Lib.wpList_append_run _ rfl _ _ _ _ rfl _ _ rfl rfl v' w' HR.out ?_) | fail)
          refine ⟨⟨i + 1, s2 + ss[i].1, by omega, by go_num, Lib.hid (by rw [hct.out]; exact O1.out), Lib.hid (by rw [hst.out, HN2.out]), O2⟩, by simp [intOf]; omega⟩
        · obtain rfl : i = ss.length := by omega
          go_wp2_with fail
          go_ret
          have hO := HO.out
          have hN := HN2.out
          rw [List.take_length] at hO hN
          rw [hN] at hO
          exact ⟨_, rfl, hO, HB.out⟩

end Go.Proofs.Ytehokjaojanieaa
