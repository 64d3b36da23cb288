/- package formula: hasAll, hasOneOf. -/
import Derived.Test.YtehokjaojanieaaFoLib
namespace Go.Proofs.Ytehokjaojanieaa
open Go.RowKit
set_option linter.unusedVariables false
set_option linter.unusedSimpArgs false

/-- All of b's numbers are a's. -/
def subS (b a : List Int) : Bool := b.all (fun x => a.contains x)
theorem sub_iff {b a : List Int} : subS b a = true ↔ ∀ x ∈ b, x ∈ a := by
  unfold subS; rw [List.all_eq_true]; simp
/-- Behind a number that is found. -/
theorem found_drop {a : List Int} (ha : Up a) {x : Int} (hx : x ∈ a) :
    a.countP (· < x) < a.length ∧ ∀ y, x < y → (y ∈ a ↔ y ∈ a.drop (a.countP (· < x) + 1)) := by
  induction a with
  | nil => cases hx
  | cons z r ih =>
    unfold Up at ha
    rw [List.pairwise_cons] at ha
    by_cases hz : z < x
    · have hxr : x ∈ r := by
        rcases List.mem_cons.1 hx with h | h
        · omega
        · exact h
      obtain ⟨h1, h2⟩ := ih ha.2 hxr
      rw [List.countP_cons_of_pos (by simpa using hz)]
      refine ⟨by simp; omega, fun y hy => ?_⟩
      rw [List.drop_succ_cons, ← h2 y hy, List.mem_cons]
      constructor
      · rintro (h | h)
        · omega
        · exact h
      · exact .inr
    · have hzx : z = x := by
        rcases List.mem_cons.1 hx with h | h
        · exact h.symm
        · have := ha.1 x h; omega
      subst hzx
      have hc : r.countP (· < z) = 0 := List.countP_eq_zero.2 (fun y hy => by have := ha.1 y hy; simp; omega)
      rw [List.countP_cons_of_neg (by simp), hc]
      refine ⟨by simp, fun y hy => ?_⟩
      rw [Nat.zero_add, List.drop_succ_cons, List.drop_zero, List.mem_cons]
      constructor
      · rintro (h | h)
        · omega
        · exact h
      · exact .inr
theorem all_congr {l : List Int} {f g : Int → Bool} (h : ∀ x ∈ l, f x = g x) : l.all f = l.all g := by
  induction l with
  | nil => rfl
  | cons x r ih => rw [List.all_cons, List.all_cons, h x (by simp), ih (fun y hy => h y (by simp [hy]))]
theorem up_drop {a : List Int} (h : Up a) (k : Nat) : Up (a.drop k) := List.Pairwise.sublist (List.drop_sublist k a) h
theorem ints_drop {w : World} {b off n c : Nat} {l : List Int} (h : IntsAt w (.slice (some ⟨b, off, none⟩) n c) l) (k : Nat) (hk : k ≤ l.length) : IntsAt w (.slice (some ⟨b, off + k, none⟩) (l.length - k) (c - k)) (l.drop k) := by
  obtain ⟨A', c', e, h2, h3, h4, h5⟩ := h
  injection e with e1 _ e3
  subst e1 e3
  have hl : (l.drop k).length = l.length - k := List.length_drop
  refine ⟨_, c - k, by rw [hl], by rw [hl]; omega, by omega, fun x hx => h4 x (List.mem_of_mem_drop hx), fun h0 => ?_⟩
  rw [hl] at h0
  obtain ⟨b', off', e, hb, r⟩ := h5 (by omega)
  injection e with e
  injection e with e1 e2
  subst e1 e2
  refine ⟨b, off + k, rfl, hb, fun j hj => ?_⟩
  rw [hl] at hj
  have := r (k + j) (by omega)
  rw [← Nat.add_assoc] at this
  rw [this]
  congr 2
  unfold inAt
  rw [List.getElem?_drop]

theorem ints_slice {w : World} {b off n c : Nat} {l : List Int} (h : IntsAt w (.slice (some ⟨b, off, none⟩) n c) l) (k : Nat) (hk : k ≤ n) : IntsAt w (.slice (if c = k then some ⟨b, off, none⟩ else some ⟨b, off + k, none⟩) (n - k) (c - k)) (l.drop k) := by
  obtain rfl := h.len
  by_cases e : c = k
  · have h3 : l.drop k = [] := by
      obtain ⟨_, _, e1, r1, _⟩ := h
      injection e1 with _ _ e3
      subst e3
      exact List.drop_eq_nil_of_le (by omega)
    rw [if_pos e, h3]
    have : l.length - k = 0 := by
      obtain ⟨_, _, e1, r1, _⟩ := h
      injection e1 with _ _ e3
      subst e3
      omega
    rw [this]
    exact ⟨_, _, rfl, Nat.zero_le _, by have : c - k = 0 := by omega
                                        omega, (fun x hx => by cases hx), fun h0 => absurd h0 (Nat.lt_irrefl _)⟩
  · rw [if_neg e]; exact ints_drop h k hk

set_option maxRecDepth 100000 in
set_option maxHeartbeats 4000000 in
theorem fHasAll (a b : List Int) (A B : Option Addr) (n c m d : Nat) (w : World) (h : IntsAt w (.slice A n c) a) (h' : IntsAt w (.slice B m d) b) (ha : Up a) (hb : Up b) (hl : a.length ≤ 4000000) :
    Calls Try.prog 57 #[.slice A n c, .slice B m d] w fun e w' => e = .returned (.bool (subS b a)) ∧ ∃ q, w' = w.drewN q := by
  have HI := Lib.hid h
  have HJ := Lib.hid h'
  have hm := h.max
  have hm' := h'.max
  obtain rfl := h.len
  obtain rfl := h'.len
  have HA := Lib.hid ha
  have HB := Lib.hid hb
  have HL := Lib.hid hl
  clear h h' ha hb hl
  go_enter Try.func57, Try.ntmps57
  go_wp2_with fail
  go_loopw [0, 11] (fun u v wr => ∃ (i k : Nat) (A' : Option Addr) (c' n' : Nat) (q : Nat), i ≤ b.length ∧ v = .int .i64 i ∧ u = .slice A' n' c' ∧ wr = w.drewN q ∧ Hid (IntsAt w (.slice A' n' c') (a.drop k)) ∧ Hid (subS b a = (b.drop i).all (fun x => (a.drop k).contains x))) (fun _ v _ => b.length - (intOf v).toNat)
  case atStart => exact ⟨0, 0, A, c, _, 0, Nat.zero_le _, rfl, rfl, rfl, HI, Lib.hid rfl⟩
  case round =>
    obtain ⟨i, k, A', c', n', q, hi, rfl, rfl, rfl, HK, HN⟩ := hrel
    by_cases hlt : i < b.length
    · have h1 : (0 : Int) ≤ (i : Int) := by omega
      have h2 : (i : Int) < (b.length : Int) := by omega
      obtain ⟨bb, ob, rfl, _, q1⟩ := HJ.out.at i hlt
      have hst : Hid (subS b a = ((a.drop k).contains (inAt b i) && (b.drop (i + 1)).all (fun x => (a.drop k).contains x))) := Lib.hid (by rw [HN.out, drop_at b i hlt]; rfl)
      have hgt : Hid (∀ y ∈ b.drop (i + 1), inAt b i < y) := Lib.hid (by
        have := up_drop HB.out i
        rw [drop_at b i hlt] at this
        exact (List.pairwise_cons.1 this).1)
      obtain ⟨x, hx⟩ : ∃ x, inAt b i = x := ⟨_, rfl⟩
      rw [hx] at q1 hst hgt
      clear hx
      have hUk := up_drop HA.out k
      have HUk := Lib.hid hUk
      have hle : Hid ((a.drop k).Pairwise (· ≤ ·)) := Lib.hid (hUk.imp (fun {p q} h => by omega))
      have hlk : (a.drop k).length ≤ 4000000 := by have := HL.out; rw [List.length_drop]; omega
      have HLk := Lib.hid hlk
      clear hUk hlk
      have q1' : (w.drewN q).cell? ⟨bb, ob + i, none⟩ = some (.int .i64 x) := q1
      go_wp2_with fail
      refine (fSearch (a.drop k) A' n' c' x _ (HK.out.drewN q) hle.out HLk.out).mono ?_
      rintro e w3 ⟨rfl, q', rfl⟩
      obtain ⟨r, hr⟩ : ∃ r, (a.drop k).contains x = r := ⟨_, rfl⟩
      obtain ⟨z, hz⟩ : ∃ z, (a.drop k).countP (· < x) = z := ⟨_, rfl⟩
      have HR := Lib.hid hr
      have HZ := Lib.hid hz
      rw [hr, hz]
      clear hr hz
      cases r
      · go_wp2_with fail
        go_ret
        exact ⟨by rw [hst.out, HR.out, Bool.false_and]; rfl, q + q', by first | rfl | rw [World.drewN_drewN]⟩
      · have hin : x ∈ a.drop k := by have := HR.out; simpa using this
        obtain ⟨f1, f2⟩ := found_drop HUk.out hin
        rw [HZ.out] at f1 f2
        have hn' : n' = (a.drop k).length := HK.out.len
        obtain ⟨b4, o4, rfl, _⟩ := HK.out.at z f1
        have hcm : n' ≤ c' ∧ c' ≤ 9223372036854775807 := by
          obtain ⟨_, _, e, r1, r2, _⟩ := HK.out
          injection e with _ _ e3
          subst e3
          omega
        have HF := Lib.hid f2
        have hz1 : z + 1 ≤ n' := by omega
        have HN' := Lib.hid hn'
        have hs := Lib.hid (ints_slice HK.out (z + 1) (by omega))
        clear f1 f2 hn' hin
        obtain ⟨hc1, hc2⟩ := hcm
        have g1 : (z : Int) + 1 ≤ (n' : Int) := by omega
        have g2 : (n' : Int) ≤ (c' : Int) := by omega
        go_wp2_with fail
        refine ⟨⟨i + 1, k + (z + 1), _, _, _, q + q', by omega, by go_num, rfl, by first | rfl | rw [World.drewN_drewN], Lib.hid (by rw [← List.drop_drop]; exact hs.out), Lib.hid ?_⟩, by simp [intOf]; omega⟩
        rw [hst.out, HR.out, Bool.true_and, show a.drop (k + (z + 1)) = (a.drop k).drop (z + 1) from List.drop_drop.symm]
        refine all_congr (fun y hy => ?_)
        rw [Bool.eq_iff_iff]
        simpa using HF.out y (hgt.out y hy)
    · obtain rfl : i = b.length := by omega
      go_wp2_with fail
      go_ret
      exact ⟨by rw [HN.out, List.drop_length]; rfl, q, rfl⟩

theorem mark_sub {m m' : Nat} {l l' : List Int} (h : MarkOk m l) (h' : MarkOk m' l') (hs : subS l l' = true) : bits .andNot .u64 (m : Int) (m' : Int) = 0 := by
  rw [bits_andNot m m' h.1 h'.1]
  have : m &&& (M64 - m') = 0 := by
    apply Nat.eq_of_testBit_eq
    intro i
    rw [Nat.testBit_and, Nat.zero_testBit, show M64 - m' = 2 ^ 64 - (m' + 1) by unfold M64; omega, Nat.testBit_two_pow_sub_succ h'.1]
    by_cases hi : i < 64
    · rw [h.2 i hi, h'.2 i hi]
      cases e : l.any (fun n => n.toNat % 64 == i)
      · rfl
      · obtain ⟨x, hx, ex⟩ := List.any_eq_true.1 e
        have : l'.any (fun n => n.toNat % 64 == i) = true := List.any_eq_true.2 ⟨x, sub_iff.1 hs x hx, ex⟩
        rw [this]; simp
    · simp [hi]
  rw [this]; rfl

set_option maxRecDepth 100000 in
set_option maxHeartbeats 4000000 in
theorem fHasOne (p : Pt) (xs : List Pt) (A : Option Addr) (n c : Nat) (R : Nat → Prop) (w : World) (hp : PtOk w R p) (h : PsAt w (.slice A n c) xs) (hl : ∀ x ∈ p :: xs, x.l.length ≤ 4000000) :
    Calls Try.prog 49 #[.agg #[p.v, .int .u64 p.m], .slice A n c] w fun e w' => e = .returned (.bool (xs.any (fun q => subS q.l p.l))) ∧ Below w.heap.size w w' := by
  have HI := Lib.hid h
  have HP := Lib.hid hp
  obtain ⟨hm, hm2, hm3⟩ := h.max
  obtain rfl := h.len
  have HL := Lib.hid hl
  have hB0 : Below w.heap.size w (w.alloc (.cells #[p.v, .int .u64 p.m] 50)) := (Below.refl _ _).alloc (Nat.le_refl _) _
  have hA0 : At (w.alloc (.cells #[p.v, .int .u64 p.m] 50)) w.heap.size 50 #[p.v, .int .u64 p.m] := At.new _ _ _
  obtain ⟨Ap, cp, hv, _⟩ := hp.1
  obtain ⟨pv, hpv⟩ : ∃ pv, p.v = pv := ⟨_, rfl⟩
  rw [hpv] at hv hB0 hA0 ⊢
  subst hv
  have HPv := Lib.hid hpv
  clear h hp hl hpv
  go_enter Try.func49, Try.ntmps49
  go_wp2_with fail
  generalize w.alloc (.cells #[.slice Ap p.l.length cp, .int .u64 p.m] 50) = W at hB0 hA0 ⊢
  go_loopw [9] (fun v wr => ∃ (i : Nat), i ≤ xs.length ∧ v = .int .i64 i ∧ Hid (Below w.heap.size w wr) ∧ Hid (At wr w.heap.size 50 #[.slice Ap p.l.length cp, .int .u64 p.m]) ∧ Hid ((xs.take i).any (fun q => subS q.l p.l) = false)) (fun v _ => xs.length - (intOf v).toNat)
  case atStart => exact ⟨0, Nat.zero_le _, rfl, Lib.hid hB0, Lib.hid hA0, Lib.hid (by simp)⟩
  case round =>
    obtain ⟨i, hi, rfl, HB, HA, HN⟩ := hrel
    by_cases hlt : i < xs.length
    · have h1 : (0 : Int) ≤ (i : Int) := by omega
      have h2 : (i : Int) < (xs.length : Int) := by omega
      obtain ⟨g, x, rfl, _, hx, q0, q1, hxo⟩ := (HI.out.next HB.out).at i hlt
      have hst := any_take xs (fun q => subS q.l p.l) i hlt
      rw [HN.out, Bool.false_or, (List.getElem?_eq_some_iff.1 hx).2] at hst
      have hmem : x ∈ p :: xs := List.mem_cons_of_mem _ (by rw [← (List.getElem?_eq_some_iff.1 hx).2]; exact List.getElem_mem hlt)
      have HX := Lib.hid hxo
      have HM := Lib.hid hmem
      have HST := Lib.hid hst
      have HXi := Lib.hid hx
      obtain ⟨Ax, cx, hv, _⟩ := hxo.1
      obtain ⟨xv, hxv⟩ : ∃ xv, x.v = xv := ⟨_, rfl⟩
      rw [hxv] at hv q0
      subst hv
      have HXv := Lib.hid hxv
      clear hst hxo hmem hx hxv
      have a0 := HA.out.cell 0
      have a1 := HA.out.cell 1
      have f0 := HA.out.free 0
      have f1 := HA.out.free 1
      have hsz := HA.out.lt
      obtain ⟨z, hz⟩ : ∃ z, bits .andNot .u64 (x.m : Int) (p.m : Int) = z := ⟨_, rfl⟩
      have HZ := Lib.hid hz
      have hB1 : Hid (Below w.heap.size w (wr.alloc (.cells #[.slice Ax x.l.length cx, .int .u64 x.m] 50))) := Lib.hid (HB.out.alloc HB.out.size _)
      by_cases hz0 : z = 0
      · subst hz0
        go_wp2_with fail
        have i1 : IntsAt (wr.alloc (.cells #[.slice Ax x.l.length cx, .int .u64 x.m] 50)) (.slice Ap p.l.length cp) p.l := by rw [← HPv.out]; exact HP.out.ints.next hB1.out
        have i2 : IntsAt (wr.alloc (.cells #[.slice Ax x.l.length cx, .int .u64 x.m] 50)) (.slice Ax x.l.length cx) x.l := by rw [← HXv.out]; exact HX.out.ints.next ((Below.refl _ _).alloc (Nat.le_refl _) _)
        have hA1 := Lib.hid (HA.out.alloc (.cells #[.slice Ax x.l.length cx, .int .u64 x.m] 50))
        clear a0 a1 f0 f1 q0 q1 hsz
        refine (fHasAll p.l x.l Ap Ax _ cp _ cx _ i1 i2 HP.out.2.1.1 HX.out.2.1.1 (HL.out _ (by simp))).mono ?_
        rintro e w3 ⟨rfl, q, rfl⟩
        obtain ⟨r, hr⟩ : ∃ r, subS x.l p.l = r := ⟨_, rfl⟩
        have HR := Lib.hid hr
        rw [hr]
        clear hr i1 i2
        cases r
        · go_wp2_with fail
          refine ⟨⟨i + 1, by omega, by go_num, Lib.hid (below_dn hB1.out _), Lib.hid (hA1.out.drewN _), Lib.hid ?_⟩, by simp [intOf]; omega⟩
          exact HST.out.trans HR.out
        · go_wp2_with fail
          go_ret
          refine ⟨?_, below_dn hB1.out _⟩
          rw [any_at hlt (g := fun q => subS q.l p.l) (by rw [(List.getElem?_eq_some_iff.1 HXi.out).2]; exact HR.out)]; rfl
      · have hz1 : (z == 0) = false := by simp [hz0]
        go_wp2_with fail
        refine ⟨⟨i + 1, by omega, by go_num, hB1, Lib.hid (HA.out.alloc _), Lib.hid ?_⟩, by simp [intOf]; omega⟩
        rw [HST.out, ← Bool.not_eq_true]
        intro hs
        exact hz0 (by rw [← HZ.out]; exact mark_sub HX.out.2.2 HP.out.2.2 hs)
    · obtain rfl : i = xs.length := by omega
      go_wp2_with fail
      go_ret
      exact ⟨by have := HN.out; rw [List.take_length] at this; rw [this]; rfl, HB.out⟩

end Go.Proofs.Ytehokjaojanieaa
