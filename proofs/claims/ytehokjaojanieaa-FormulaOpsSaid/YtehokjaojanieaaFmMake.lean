/- bolterref09.Make: the formed formula of a table of ways. -/
import Derived.Test.YtehokjaojanieaaFmLess
import Derived.Test.YtehokjaojanieaaFmChosen
import Derived.Test.YtehokjaojanieaaVals
namespace Go.Proofs.Ytehokjaojanieaa
open Go.RowKit
set_option linter.unusedVariables false
set_option linter.unusedSimpArgs false

/-- The values us stand for the parts f. -/
def FmVals (w : World) (us : List Value) (f : Fm) : Prop := us.length = f.length ∧ (∀ u ∈ us, u.oneCell' = true) ∧ ∀ j (h : j < us.length), IntsAt w us[j] (paAt f j)
theorem FmVals.next {w w' : World} {us : List Value} {f : Fm} (h : FmVals w us f) (hb : Below w.heap.size w w') : FmVals w' us f := ⟨h.1, h.2.1, fun j hj => (h.2.2 j hj).next hb⟩
theorem FmVals.drewN {w : World} {us : List Value} {f : Fm} (h : FmVals w us f) (q : Nat) : FmVals (w.drewN q) us f := h
theorem vals_fm {w : World} {v : Value} {us : List Value} {f : Fm} (h : ValsAt w v us) (h' : FmVals w us f) : FmAt w v f := by
  obtain ⟨A, c, rfl, h2, h3, h4⟩ := h
  refine ⟨A, c, by rw [h'.1], by rw [← h'.1]; exact h3.1, h3.2, fun h0 => ?_⟩
  obtain ⟨b, off, e, hlt, hr⟩ := h4 (by rw [h'.1]; exact h0)
  exact ⟨b, off, e, hlt, fun j hj => ⟨_, hr j (by rw [h'.1]; exact hj), h'.2.2 j (by rw [h'.1]; exact hj)⟩⟩
theorem FmVals.ins {w : World} {us : List Value} {f : Fm} {u : Value} {p : List Int} (h : FmVals w us f) (hu : u.oneCell' = true) (hp : IntsAt w u p) (k : Nat) (hk : k ≤ us.length) : FmVals w (us.take k ++ [u] ++ us.drop k) (f.take k ++ p :: f.drop k) := by
  have hl := h.1
  refine ⟨by simp; omega, fun x hx => ?_, fun j hj => ?_⟩
  · rw [List.append_assoc, List.mem_append] at hx
    rcases hx with hx | hx
    · exact h.2.1 x (List.mem_of_mem_take hx)
    · rcases List.mem_append.1 hx with hx | hx
      · rw [List.mem_singleton.1 hx]; exact hu
      · exact h.2.1 x (List.mem_of_mem_drop hx)
  · have hj' : j < us.length + 1 := by simp at hj; omega
    rcases Nat.lt_trichotomy j k with c | c | c
    · have e1 : (us.take k ++ [u] ++ us.drop k)[j] = us[j]'(by omega) := by
        rw [List.getElem_append_left (by simp; omega), List.getElem_append_left (by simp; omega), List.getElem_take]
      have e2 : paAt (f.take k ++ p :: f.drop k) j = paAt f j := by
        unfold paAt
        rw [List.getElem?_append_left (by simp; omega), List.getElem?_take_of_lt c]
      rw [e1, e2]
      exact h.2.2 j (by omega)
    · subst c
      have e1 : (us.take j ++ [u] ++ us.drop j)[j] = u := by
        rw [List.getElem_append_left (by simp; omega), List.getElem_append_right (by simp; omega)]
        simp
      have e2 : paAt (f.take j ++ p :: f.drop j) j = p := by
        unfold paAt
        rw [List.getElem?_append_right (by simp; omega)]
        simp [Nat.min_eq_left (show j ≤ f.length by omega)]
      rw [e1, e2]
      exact hp
    · have e1 : (us.take k ++ [u] ++ us.drop k)[j] = us[j - 1]'(by omega) := by
        rw [List.getElem_append_right (by simp; omega), List.getElem_drop]
        congr 1
        simp; omega
      have e2 : paAt (f.take k ++ p :: f.drop k) j = paAt f (j - 1) := by
        unfold paAt
        rw [List.getElem?_append_right (by simp; omega), List.length_take, Nat.min_eq_left (by omega), show j - k = (j - k - 1) + 1 by omega, List.getElem?_cons_succ, List.getElem?_drop, show k + (j - k - 1) = j - 1 by omega]
      rw [e1, e2]
      exact h.2.2 (j - 1) (by omega)
def leastTo (hf : Nat → Bool) (bits k : Nat) : Bool := hf bits && (List.range k).all (fun i => !(bits.testBit i && hf (bits ^^^ 2 ^ i)))
def insS (f : Fm) (p : List Int) : Fm := f.takeWhile (fun q => lessS q p) ++ p :: f.dropWhile (fun q => lessS q p)
def makeTo (l : List Int) (hf : Nat → Bool) : Nat → Fm
  | 0 => []
  | j + 1 => if leastTo hf j l.length then insS (makeTo l hf j) (chosenS l j) else makeTo l hf j
theorem tw_take (f : Fm) (g : List Int → Bool) : f.takeWhile g = f.take (f.takeWhile g).length ∧ f.dropWhile g = f.drop (f.takeWhile g).length := by
  induction f with
  | nil => exact ⟨rfl, rfl⟩
  | cons x f ih =>
    cases hg : g x
    · simp [List.takeWhile_cons, List.dropWhile_cons, hg]
    · simp only [List.takeWhile_cons, List.dropWhile_cons, hg, if_true, List.length_cons, List.take_succ_cons, List.drop_succ_cons]
      exact ⟨by rw [← ih.1], ih.2⟩
theorem tw_yes {f : Fm} {g : List Int → Bool} {k : Nat} (h : k < (f.takeWhile g).length) : g (paAt f k) = true := by
  have e := (tw_take f g).1
  have hl : (f.takeWhile g).length ≤ f.length := (List.takeWhile_sublist _).length_le
  have hm : paAt f k ∈ f.takeWhile g := by
    rw [e, paAt_lt (by omega), ← List.getElem_take (j := (f.takeWhile g).length) (h := by rw [List.length_take]; omega)]
    exact List.getElem_mem _
  have : ∀ (f : Fm) (x : List Int), x ∈ f.takeWhile g → g x = true := by
    intro f
    induction f with
    | nil => intro x hx; cases hx
    | cons y f ih =>
      intro x hx
      cases hg : g y
      · rw [List.takeWhile_cons, hg] at hx; cases hx
      · rw [List.takeWhile_cons, hg] at hx
        rcases List.mem_cons.1 hx with rfl | hx
        · exact hg
        · exact ih x hx
  exact this f _ hm
theorem tw_no {f : Fm} {g : List Int → Bool} (h : (f.takeWhile g).length < f.length) : g (paAt f (f.takeWhile g).length) = false := by
  have : ∀ (f : Fm), (f.takeWhile g).length < f.length → g (paAt f (f.takeWhile g).length) = false := by
    intro f
    induction f with
    | nil => intro h; simp at h
    | cons y f ih =>
      intro h
      cases hg : g y
      · simp only [List.takeWhile_cons, hg]; exact hg
      · simp only [List.takeWhile_cons, hg, if_true, List.length_cons] at h ⊢
        exact ih (by omega)
  exact this f h
theorem tw_le (f : Fm) (g : List Int → Bool) : (f.takeWhile g).length ≤ f.length := (List.takeWhile_sublist _).length_le
theorem make_le (l : List Int) (hf : Nat → Bool) : ∀ j, (makeTo l hf j).length ≤ j
  | 0 => Nat.le_refl _
  | j + 1 => by
    have h := make_le l hf j
    show (if _ then _ else _ : Fm).length ≤ _
    split
    · unfold insS
      have h1 := (tw_take (makeTo l hf j) (fun q => lessS q (chosenS l j))).2
      have h2 := tw_le (makeTo l hf j) (fun q => lessS q (chosenS l j))
      rw [List.length_append, List.length_cons, h1, List.length_drop]
      omega
    · omega
theorem xor_i64 (a b : Nat) (ha : a < 1073741824) (hb : b < 1073741824) : Go.bits .xor .i64 (a : Int) (b : Int) = ((a ^^^ b : Nat) : Int) := by
  have hx : a ^^^ b < 2 ^ 30 := Nat.xor_lt_two_pow ha hb
  show IntKind.i64.wrap ((BitVec.ofInt 64 (a : Int) ^^^ BitVec.ofInt 64 (b : Int)).toNat : Int) = _
  rw [BitVec.toNat_xor, show (BitVec.ofInt 64 (a : Int)).toNat = a by simp [BitVec.toNat_ofInt]; omega, show (BitVec.ofInt 64 (b : Int)).toNat = b by simp [BitVec.toNat_ofInt]; omega, IntKind.wrap_i64]
  omega
theorem pow_i64 (k : Nat) (h : k < 30) : wrap64 (2 ^ k) = ((2 ^ k : Nat) : Int) := by
  have h1 : (2 : Nat) ^ k ≤ 2 ^ 30 := Nat.pow_le_pow_right (by omega) (by omega)
  have h2 : (2 : Int) ^ k = ((2 ^ k : Nat) : Int) := by push_cast; rfl
  rw [h2]
  generalize (2 : Nat) ^ k = z at h1 ⊢
  unfold wrap64
  omega
/-- The ways of a table: bools in a row. -/
def WaysAt (w : World) (g N : Nat) (hf : Nat → Bool) : Prop := g < w.heap.size ∧ ∀ j, j < N → w.cell? ⟨g, j, none⟩ = some (.bool (hf j))
theorem WaysAt.next {w w' : World} {g N : Nat} {hf : Nat → Bool} (h : WaysAt w g N hf) (hb : Below w.heap.size w w') : WaysAt w' g N hf := ⟨Nat.lt_of_lt_of_le h.1 hb.size, fun j hj => ((bcell hb).1 g _ h.1).trans (h.2 j hj)⟩

set_option maxRecDepth 100000 in
set_option maxHeartbeats 16000000 in
theorem refMake (l : List Int) (hf : Nat → Bool) (A : Option Addr) (n c g N d : Nat) (w : World) (h : IntsAt w (.slice A n c) l) (hl : l.length ≤ 20) (hN : N = 2 ^ l.length) (hw : WaysAt w g N hf) :
    Calls Try.prog 35 #[.slice A n c, .slice (some ⟨g, 0, none⟩) N d] w fun e w' => ∃ v, e = .returned v ∧ FmAt w' v (makeTo l hf N) ∧ Below w.heap.size w w' := by
  have HI := Lib.hid h
  have HW := Lib.hid hw
  have HN := Lib.hid hN
  have hm := h.max
  obtain rfl := h.len
  have hNs : N ≤ 1048576 := by rw [hN]; exact Nat.pow_le_pow_right (by omega) hl
  clear h hw hN
  obtain ⟨i0, hi0, hz0, hz1, hz2⟩ := info_parts info_fms
  go_enter Try.func35, Try.ntmps35
  go_wp2_with fail
  go_loopw [5, 13] (fun u v wr => ∃ (j : Nat) (us : List Value), j ≤ N ∧ v = .int .i64 j ∧ Hid (ValsAt wr u us) ∧ Hid (us = [] → u = .slice none 0 0) ∧ Hid (FmVals wr us (makeTo l hf j)) ∧ Hid (Below w.heap.size w wr)) (fun _ v _ => N - (intOf v).toNat)
  case atStart => exact ⟨0, [], Nat.zero_le _, rfl, Lib.hid (ValsAt.nil _), Lib.hid (fun _ => rfl), Lib.hid ⟨rfl, (fun u hu => by cases hu), (fun j hj => absurd hj (Nat.not_lt_zero _))⟩, Lib.hid (Below.refl _ _)⟩
  case round =>
    obtain ⟨j, us, hj, rfl, HV, HVn, HF, HB⟩ := hrel
    by_cases hlt : j < N
    · have h1 : (0 : Int) ≤ (j : Int) := by omega
      have h2 : (j : Int) < (N : Int) := by omega
      have HWr := Lib.hid (HW.out.next HB.out)
      have q1 := HWr.out.2 j hlt
      have hmk := make_le l hf j
      obtain ⟨f, hfe⟩ : ∃ f, makeTo l hf j = f := ⟨_, rfl⟩
      have hnext : makeTo l hf (j + 1) = if leastTo hf j l.length then insS f (chosenS l j) else f := by rw [← hfe]; rfl
      rw [hfe] at HF hmk
      have HNx := Lib.hid hnext
      clear hnext hfe
      go_wp2_with fail
      obtain ⟨wo, hwo⟩ : ∃ wo : World, wo = wr := ⟨_, rfl⟩
      rw [← hwo] at HV HF HB HWr ⊢
      clear hwo q1
      go_loopw [7, 22] (fun u v wr => ∃ k : Nat, k ≤ l.length ∧ v = .int .i64 k ∧ wr = wo ∧ u = .bool (leastTo hf j k)) (fun _ v _ => l.length - (intOf v).toNat)
      case atStart => exact ⟨0, Nat.zero_le _, rfl, rfl, by unfold leastTo; simp⟩
      case round =>
        obtain ⟨k, hk, rfl, hwr, rfl⟩ := hrel
        by_cases hkl : k < l.length
        · have h3 : (0 : Int) ≤ (k : Int) := by omega
          have h4 : (k : Int) < (l.length : Int) := by omega
          have hstep : leastTo hf j (k + 1) = (leastTo hf j k && !(j.testBit k && hf (j ^^^ 2 ^ k))) := by
            unfold leastTo
            rw [List.range_succ, List.all_append, Bool.and_assoc]; simp
          have HSt := Lib.hid hstep
          have ht := test_i64 j k (by omega)
          obtain ⟨lv, hlv⟩ : ∃ lv, leastTo hf j k = lv := ⟨_, rfl⟩
          rw [hlv] at HSt ⊢
          clear hstep hlv
          cases htb : j.testBit k
          · rw [htb] at ht HSt
            simp only [Bool.false_eq_true, if_false] at ht
            clear htb
            go_wp2_with fail
            refine ⟨⟨k + 1, by omega, by go_num, by first | rfl | trivial | assumption, by rw [HSt.out]; simp⟩, by simp [intOf]; omega⟩
          · rw [htb] at ht HSt
            simp only [if_true] at ht
            clear htb
            have hpk : 2 ^ k < 2 ^ l.length := Nat.pow_lt_pow_right (by omega) hkl
            obtain ⟨pk, hpe⟩ : ∃ pk, pk = 2 ^ k := ⟨_, rfl⟩
            have e1 := pow_i64 k (by omega)
            rw [← hpe] at e1 hpk HSt
            have hjN : j < 2 ^ l.length := by rw [← HN.out]; exact hlt
            obtain ⟨mk, hmk2⟩ : ∃ mk, mk = j ^^^ pk := ⟨_, rfl⟩
            have hmN : mk < N := by rw [HN.out, hmk2]; exact Nat.xor_lt_two_pow hjN hpk
            have hpkN : pk < N := by rw [HN.out]; exact hpk
            have e2 := xor_i64 j pk (Nat.lt_of_lt_of_le hlt (Nat.le_trans hNs (by decide))) (Nat.lt_of_lt_of_le hpkN (Nat.le_trans hNs (by decide)))
            rw [← hmk2] at e2 HSt
            have h5 : (0 : Int) ≤ (mk : Int) := by omega
            have h6 : (mk : Int) < (N : Int) := by omega
            have q2 := HWr.out.2 mk hmN
            obtain ⟨vm, hvm⟩ : ∃ vm, hf mk = vm := ⟨_, rfl⟩
            rw [hvm] at q2 HSt
            clear hpe hmk2 hvm hpk hjN hpkN
            subst hwr
            cases vm
            · go_wp2_with fail
              refine ⟨⟨k + 1, by omega, by go_num, by first | rfl | trivial, by rw [HSt.out]; simp⟩, by simp [intOf]; omega⟩
            · go_wp2_with fail
              refine ⟨⟨k + 1, by omega, by go_num, by first | rfl | trivial, by rw [HSt.out]; simp⟩, by simp [intOf]; omega⟩
        · obtain rfl : k = l.length := by omega
          subst hwr
          obtain ⟨lv, hlv⟩ : ∃ lv, leastTo hf j l.length = lv := ⟨_, rfl⟩
          rw [hlv] at HNx ⊢
          clear hlv
          cases lv
          · simp only [Bool.false_eq_true, if_false] at HNx
            go_wp2_with fail
            refine ⟨⟨j + 1, us, by omega, by go_num, HV, HVn, by rw [HNx.out]; exact HF, HB⟩, by simp [intOf]; omega⟩
          · simp only [if_true] at HNx
            have hV2 := HV.out
            obtain ⟨Au, cu, rfl, _⟩ := id hV2
            go_wp2_with fail
            refine (refChosen l A l.length c j _ (HI.out.next HB.out) (by omega) (by omega)).mono ?_
            rintro e w4 ⟨vp, rfl, hp4, hb4⟩
            obtain ⟨Ap, cp, rfl, _⟩ := id hp4
            have HP4 := Lib.hid hp4
            have HF4 := Lib.hid (HF.out.next hb4)
            have HV4 := Lib.hid (HV.out.next hb4)
            have HB4 := Lib.hid (HB.out.trans (hb4.mono HB.out.size))
            obtain ⟨p, hpe⟩ : ∃ p, chosenS l j = p := ⟨_, rfl⟩
            rw [hpe] at HP4 HNx ⊢
            clear hp4 hb4 hpe hV2
            have HUs : Hid (us.length = f.length) := Lib.hid HF4.out.1
            have hul : us.length ≤ N := by have := HUs.out; omega
            have htl := tw_le f (fun q => lessS q p)
            obtain ⟨t, hte⟩ : ∃ t, (f.takeWhile (fun q => lessS q p)).length = t := ⟨_, rfl⟩
            have hty : ∀ k, k < t → lessS (paAt f k) p = true := fun k hk => tw_yes (g := fun q => lessS q p) (by rw [hte]; exact hk)
            have htn : t < f.length → lessS (paAt f t) p = false := fun h => by have := tw_no (g := fun q => lessS q p) (f := f) (by rw [hte]; exact h); rw [hte] at this; exact this
            have hins : insS f p = f.take t ++ p :: f.drop t := by unfold insS; rw [(tw_take f (fun q => lessS q p)).1, (tw_take f (fun q => lessS q p)).2, hte]
            rw [hte] at htl
            have HTy := Lib.hid hty
            have HTn := Lib.hid htn
            have HIns := Lib.hid hins
            clear hty htn hins hte
            go_wp2_with fail
            go_loopw [10] (fun v wr => ∃ k q : Nat, k ≤ t ∧ v = .int .i64 k ∧ wr = w4.drewN q) (fun v _ => t - (intOf v).toNat)
            case atStart => exact ⟨0, 0, Nat.zero_le _, rfl, rfl⟩
            case round =>
              obtain ⟨k, q, hk, rfl, rfl⟩ := hrel
              have h7 : (0 : Int) ≤ (k : Int) := by omega
              have hfm := vals_fm HV4.out HF4.out
              by_cases hkf : k < us.length
              · have h8 : (k : Int) < (us.length : Int) := by omega
                have h9 : decide (k < us.length) = true := decide_eq_true hkf
                obtain ⟨b6, o6, A6, c6, rfl, _, q6, hp6⟩ := hfm.at k (by rw [← HUs.out]; exact hkf)
                obtain ⟨p6, hp6e⟩ : ∃ p6, paAt f k = p6 := ⟨_, rfl⟩
                have HP6e := Lib.hid hp6e
                rw [hp6e] at q6 hp6
                have HP6 := Lib.hid hp6
                clear hp6e hp6 hfm
                obtain ⟨lv, hlv⟩ : ∃ lv, lessS p6 p = lv := ⟨_, rfl⟩
                have HLv := Lib.hid hlv
                clear hlv
                go_wp2_with fail
                refine (refLess9 p6 p A6 Ap _ c6 _ cp _ (HP6.out.drewN q) (HP4.out.drewN q)).mono ?_
                rintro e w5 ⟨rfl, q5, rfl⟩
                rw [HLv.out]
                cases lv
                · have hkt : k = t := by
                    by_cases hc : k < t
                    · have := HTy.out k hc
                      rw [HP6e.out, HLv.out] at this; cases this
                    · omega
                  subst hkt
                  have hcu := HV4.out.cap
                  have hck0 : k ≤ us.length := by omega
                  have hkn : (k : Int) ≤ (us.length : Int) := by omega
                  have hkc : (k : Int) ≤ (cu : Int) := by omega
                  have hcz : (us.length : Int) ≤ (cu : Int) := by omega
                  have hck : ¬ cu = k := by omega
                  have hck2 : ¬ k = cu := by omega
                  go_wp2_with fail
                  obtain ⟨ws, hws⟩ : ∃ ws, ws = w4.drewN (q + q5) := ⟨_, rfl⟩
                  have HBs : Hid (Below w.heap.size w ws) := Lib.hid (by rw [hws]; exact below_dn HB4.out _)
                  have HVs : Hid (ValsAt ws (.slice (some ⟨b6, o6, none⟩) us.length cu) us) := Lib.hid (by rw [hws]; exact HV4.out)
                  have HFs : Hid (FmVals ws us f) := Lib.hid (by rw [hws]; exact HF4.out)
                  have HPs : Hid (IntsAt ws (.slice Ap p.length cp) p) := Lib.hid (by rw [hws]; exact HP4.out)
                  first | rw [← hws] | rw [World.drewN_drewN, ← hws]
                  clear hws
                  refine wp_region_noPanic ?_
                  refine wp_region_held_drew (S := (fun _ => True)) (by kernel_rfl) (by trivial) (fun hHeld => ?_)
                  have hB : Below ws.heap.size ws ws.drew := (Below.refl _ _).drew
                  refine wpAnyH_take (i := 1) (oi := ⟨some 62, _, _, _, _, _⟩) (v := ?_) rfl (by kernel_rfl) (by kernel_rfl) (by kernel_rfl) (fun _ _ _ h => h) (Or.inl ⟨by rfl, ?_⟩) (by exact hHeld) ?_
                  rotate_left
                  · (intro w hSw; (try dsimp only at hSw); go_simp; try (with_reducible rfl))
                  simp only [Act.put, List.setIfInBounds_toArray, List.set_cons_zero, List.set_cons_succ]
                  refine wpAnyH_take (i := 2) (oi := ⟨some 63, _, _, _, _, _⟩) (v := ?_) rfl (by kernel_rfl) (by kernel_rfl) (by kernel_rfl) (fun _ _ _ h => h) (Or.inl ⟨by rfl, ?_⟩) (by exact hHeld) ?_
                  rotate_left
                  · (intro w hSw; (try dsimp only at hSw); go_simp; try (with_reducible rfl))
                  simp only [Act.put, List.setIfInBounds_toArray, List.set_cons_zero, List.set_cons_succ]
                  refine wpAnyH_take (i := 3) (oi := ⟨some 64, _, _, _, _, _⟩) (v := ?_) rfl (by kernel_rfl) (by kernel_rfl) (by kernel_rfl) (fun _ _ _ h => h) (Or.inl ⟨by rfl, ?_⟩) (by exact hHeld) ?_
                  rotate_left
                  · (intro w hSw; (try dsimp only at hSw); go_simp; try (with_reducible rfl))
                  simp only [Act.put, List.setIfInBounds_toArray, List.set_cons_zero, List.set_cons_succ]
                  refine wpAnyH_take (i := 5) (oi := ⟨some 66, _, _, _, _, _⟩) (v := ?_) rfl (by kernel_rfl) (by kernel_rfl) (by kernel_rfl) (fun _ _ _ h => h) (Or.inl ⟨by rfl, ?_⟩) (by exact hHeld) ?_
                  rotate_left
                  · (intro w hSw; (try dsimp only at hSw); go_simp; try (with_reducible rfl))
                  simp only [Act.put, List.setIfInBounds_toArray, List.set_cons_zero, List.set_cons_succ]
                  refine wpAnyH_take (i := 8) (oi := ⟨some 69, _, _, _, _, _⟩) (v := ?_) rfl (by kernel_rfl) (by kernel_rfl) (by kernel_rfl) (fun _ _ _ h => h) (Or.inl ⟨by rfl, ?_⟩) (by exact hHeld) ?_
                  rotate_left
                  · (intro w hSw; (try dsimp only at hSw); go_simp; try (with_reducible rfl))
                  simp only [Act.put, List.setIfInBounds_toArray, List.set_cons_zero, List.set_cons_succ]
                  refine wpAnyH_take (i := 9) (oi := ⟨some 70, _, _, _, _, _⟩) (v := ?_) rfl (by kernel_rfl) (by kernel_rfl) (by kernel_rfl) (fun _ _ _ h => h) (Or.inl ⟨by rfl, ?_⟩) (by exact hHeld) ?_
                  rotate_left
                  · (intro w hSw; (try dsimp only at hSw); go_simp; try (with_reducible rfl))
                  simp only [Act.put, List.setIfInBounds_toArray, List.set_cons_zero, List.set_cons_succ]
                  refine wpAnyH_take (i := 10) (oi := ⟨some 71, _, _, _, _, _⟩) (v := ?_) rfl (by kernel_rfl) (by kernel_rfl) (by kernel_rfl) (fun _ _ _ h => h) (Or.inl ⟨by rfl, ?_⟩) (by exact hHeld) ?_
                  rotate_left
                  · (intro w hSw; (try dsimp only at hSw); go_simp; try (with_reducible rfl))
                  simp only [Act.put, List.setIfInBounds_toArray, List.set_cons_zero, List.set_cons_succ]
                  refine wpAnyH_ready (rs := [0, 6]) (by kernel_rfl) (by simp) ?_
                  refine AllReadyH.cons (o := ⟨some 61, _, _, _, _, _⟩) rfl (fun K hK => ?_) ?_
                  · refine stepv_slice0 22 34 rfl rfl run_fms0 (fun g4 w3 h4 hb3 hg4 => ?_)
                    have hg4b : ws.heap.size ≤ g4 := Nat.le_trans hB.size hg4
                    try have hne : g8 ≠ g4 := by have := h8.lt; omega
                    try have h8 := h8.step hb3 rfl
                    have hB := hB.trans (hb3.mono hB.size)
                    clear hb3 hg4
                    try dsimp only
                    refine hK.out _ _ ?_ (fun hHeld => ?_)
                    · trivial
                    clear hK K
                    try simp only [Act.put, List.setIfInBounds_toArray, List.set_cons_zero, List.set_cons_succ]
                    refine wpAnyH_ready (rs := [4, 6]) (by kernel_rfl) (by simp) ?_
                    refine AllReadyH.cons (o := ⟨some 65, _, _, _, _, _⟩) rfl (fun K hK => ?_) ?_
                    · refine stepv_append rfl _ _ 22 rfl _ _ rfl rfl (append_vals (E := 34) Try.underlying22 hi0 hz0 hz1 hz2 rfl (by decide) _ ws.heap.size _ [] (us.take k) (some ⟨b6, o6, none⟩) k _ _ (VRow.empty h4 hg4b) hB.size ((HVs.out.next hB).take k (by omega)) (fun u hu => HF4.out.2.1 u (List.mem_of_mem_take hu)) (by simp <;> omega)) ?_
                      rintro v6 w3 ⟨h6, hgr⟩
                      try have h8 := at_keep h8 hgr (fun q => hne (by injection q with q; exact q.symm))
                      have hB := below_gr hB hB.size hgr (fun q hq => by have e : g4 = q := Option.some.inj hq; omega)
                      clear hgr h4 hg4b
                      try clear hne
                      rw [List.nil_append] at h6
                      refine hK.out _ _ ?_ (fun hHeld => ?_)
                      · trivial
                      clear hK K
                      try simp only [Act.put, List.setIfInBounds_toArray, List.set_cons_zero, List.set_cons_succ]
                      refine wpAnyH_ready (rs := [6]) (by kernel_rfl) (by simp) ?_
                      refine AllReadyH.cons (o := ⟨some 67, _, _, _, _, _⟩) rfl (fun K hK => ?_) AllReadyH.nil
                      refine stepv_slice1 22 34 rfl _ (.slice Ap p.length cp) rfl rfl (run_fms1 _ _ _) (fun g8 w3 h8 hb3 hg8 => ?_)
                      try have hne : g8 ≠ g4 := by have := h4.lt; omega
                      try have h4 := h4.step hb3 rfl
                      try have h6 := h6.next hb3
                      have hB := hB.trans (hb3.mono hB.size)
                      clear hb3 hg8
                      try dsimp only
                      refine hK.out _ _ ?_ (fun hHeld => ?_)
                      · trivial
                      clear hK K
                      try simp only [Act.put, List.setIfInBounds_toArray, List.set_cons_zero, List.set_cons_succ]
                      refine wpAnyH_ready (rs := [7]) (by kernel_rfl) (by simp) ?_
                      refine AllReadyH.cons (o := ⟨some 68, _, _, _, _, _⟩) rfl (fun K hK => ?_) AllReadyH.nil
                      refine stepv_append rfl _ _ 22 rfl _ _ rfl rfl (append_vals (E := 34) Try.underlying22 hi0 hz0 hz1 hz2 rfl (by decide) _ ws.heap.size v6 _ [(.slice Ap p.length cp)] (some ⟨g8, 0, none⟩) 1 1 _ h6 hB.size (one_vals h8) (fun u hu => by rw [List.mem_singleton.1 hu]; rfl) (by simp <;> omega)) ?_
                      rintro v7 w3 ⟨h7, hgr⟩
                      have hrow := h6.low
                      have hB := below_gr hB hB.size hgr hrow
                      clear hgr h6 h8 hrow
                      refine hK.out _ _ ?_ (fun hHeld => ?_)
                      · trivial
                      clear hK K
                      try simp only [Act.put, List.setIfInBounds_toArray, List.set_cons_zero, List.set_cons_succ]
                      refine wpAnyH_ready (rs := [11]) (by kernel_rfl) (by simp) ?_
                      refine AllReadyH.cons (o := ⟨some 72, _, _, _, _, _⟩) rfl (fun K hK => ?_) AllReadyH.nil
                      refine stepv_append rfl _ _ 22 rfl _ _ rfl rfl (append_vals (E := 34) Try.underlying22 hi0 hz0 hz1 hz2 rfl (by decide) _ ws.heap.size v7 _ (us.drop k) (some ⟨b6, o6 + k, none⟩) _ _ _ h7 hB.size ((HVs.out.next hB).drop rfl k (cu - k) (by omega) rfl) (fun u hu => HF4.out.2.1 u (List.mem_of_mem_drop hu)) (by simp <;> omega)) ?_
                      rintro v9 w3 ⟨h9, hgr⟩
                      have hrow := h7.low
                      have hB := below_gr hB hB.size hgr hrow
                      clear hgr h7 hrow
                      refine hK.out _ _ ?_ (fun hHeld => ?_)
                      · trivial
                      clear hK K
                      try simp only [Act.put, List.setIfInBounds_toArray, List.set_cons_zero, List.set_cons_succ]
                      refine wpAnyH_take (i := 12) (oi := ⟨some 5, _, _, _, _, _⟩) (v := ?_) rfl (by kernel_rfl) (by kernel_rfl) (by kernel_rfl) (fun _ _ _ h => h) (Or.inl ⟨by rfl, ?_⟩) (by exact hHeld) ?_
                      rotate_left
                      · (intro w hSw; (try dsimp only at hSw); go_simp; try (with_reducible rfl))
                      simp only [Act.put, List.setIfInBounds_toArray, List.set_cons_zero, List.set_cons_succ]
                      refine wpAnyH_done (by kernel_rfl) ?_ _
                      refine NoPanic.normal ?_
                      have HBe := Lib.hid (HBs.out.trans (hB.mono HBs.out.size))
                      have HFe := Lib.hid (FmVals.ins (HFs.out.next hB) (u := (.slice Ap p.length cp)) rfl (HPs.out.next hB) k (by first | omega | simp))
                      have HVe := Lib.hid h9.vals
                      clear hB h9 hHeld
                      go_wp2_with fail
                      go_roundw
                      case rel => exact ⟨j + 1, us.take k ++ [(.slice Ap p.length cp)] ++ us.drop k, by omega, by go_num, HVe, Lib.hid (fun e => by simp at e), by rw [HNx.out, HIns.out]; exact HFe, HBe⟩
                      case measure => simp [intOf]; omega
                    refine AllReadyH.cons (o := ⟨some 67, _, _, _, _, _⟩) rfl (fun K hK => ?_) AllReadyH.nil
                    · refine stepv_slice1 22 34 rfl _ (.slice Ap p.length cp) rfl rfl (run_fms1 _ _ _) (fun g8 w3 h8 hb3 hg8 => ?_)
                      try have hne : g8 ≠ g4 := by have := h4.lt; omega
                      try have h4 := h4.step hb3 rfl
                      try have h6 := h6.next hb3
                      have hB := hB.trans (hb3.mono hB.size)
                      clear hb3 hg8
                      try dsimp only
                      refine hK.out _ _ ?_ (fun hHeld => ?_)
                      · trivial
                      clear hK K
                      try simp only [Act.put, List.setIfInBounds_toArray, List.set_cons_zero, List.set_cons_succ]
                      refine wpAnyH_ready (rs := [4]) (by kernel_rfl) (by simp) ?_
                      refine AllReadyH.cons (o := ⟨some 65, _, _, _, _, _⟩) rfl (fun K hK => ?_) AllReadyH.nil
                      refine stepv_append rfl _ _ 22 rfl _ _ rfl rfl (append_vals (E := 34) Try.underlying22 hi0 hz0 hz1 hz2 rfl (by decide) _ ws.heap.size _ [] (us.take k) (some ⟨b6, o6, none⟩) k _ _ (VRow.empty h4 hg4b) hB.size ((HVs.out.next hB).take k (by omega)) (fun u hu => HF4.out.2.1 u (List.mem_of_mem_take hu)) (by simp <;> omega)) ?_
                      rintro v6 w3 ⟨h6, hgr⟩
                      try have h8 := at_keep h8 hgr (fun q => hne (by injection q with q; exact q.symm))
                      have hB := below_gr hB hB.size hgr (fun q hq => by have e : g4 = q := Option.some.inj hq; omega)
                      clear hgr h4 hg4b
                      try clear hne
                      rw [List.nil_append] at h6
                      refine hK.out _ _ ?_ (fun hHeld => ?_)
                      · trivial
                      clear hK K
                      try simp only [Act.put, List.setIfInBounds_toArray, List.set_cons_zero, List.set_cons_succ]
                      refine wpAnyH_ready (rs := [7]) (by kernel_rfl) (by simp) ?_
                      refine AllReadyH.cons (o := ⟨some 68, _, _, _, _, _⟩) rfl (fun K hK => ?_) AllReadyH.nil
                      refine stepv_append rfl _ _ 22 rfl _ _ rfl rfl (append_vals (E := 34) Try.underlying22 hi0 hz0 hz1 hz2 rfl (by decide) _ ws.heap.size v6 _ [(.slice Ap p.length cp)] (some ⟨g8, 0, none⟩) 1 1 _ h6 hB.size (one_vals h8) (fun u hu => by rw [List.mem_singleton.1 hu]; rfl) (by simp <;> omega)) ?_
                      rintro v7 w3 ⟨h7, hgr⟩
                      have hrow := h6.low
                      have hB := below_gr hB hB.size hgr hrow
                      clear hgr h6 h8 hrow
                      refine hK.out _ _ ?_ (fun hHeld => ?_)
                      · trivial
                      clear hK K
                      try simp only [Act.put, List.setIfInBounds_toArray, List.set_cons_zero, List.set_cons_succ]
                      refine wpAnyH_ready (rs := [11]) (by kernel_rfl) (by simp) ?_
                      refine AllReadyH.cons (o := ⟨some 72, _, _, _, _, _⟩) rfl (fun K hK => ?_) AllReadyH.nil
                      refine stepv_append rfl _ _ 22 rfl _ _ rfl rfl (append_vals (E := 34) Try.underlying22 hi0 hz0 hz1 hz2 rfl (by decide) _ ws.heap.size v7 _ (us.drop k) (some ⟨b6, o6 + k, none⟩) _ _ _ h7 hB.size ((HVs.out.next hB).drop rfl k (cu - k) (by omega) rfl) (fun u hu => HF4.out.2.1 u (List.mem_of_mem_drop hu)) (by simp <;> omega)) ?_
                      rintro v9 w3 ⟨h9, hgr⟩
                      have hrow := h7.low
                      have hB := below_gr hB hB.size hgr hrow
                      clear hgr h7 hrow
                      refine hK.out _ _ ?_ (fun hHeld => ?_)
                      · trivial
                      clear hK K
                      try simp only [Act.put, List.setIfInBounds_toArray, List.set_cons_zero, List.set_cons_succ]
                      refine wpAnyH_take (i := 12) (oi := ⟨some 5, _, _, _, _, _⟩) (v := ?_) rfl (by kernel_rfl) (by kernel_rfl) (by kernel_rfl) (fun _ _ _ h => h) (Or.inl ⟨by rfl, ?_⟩) (by exact hHeld) ?_
                      rotate_left
                      · (intro w hSw; (try dsimp only at hSw); go_simp; try (with_reducible rfl))
                      simp only [Act.put, List.setIfInBounds_toArray, List.set_cons_zero, List.set_cons_succ]
                      refine wpAnyH_done (by kernel_rfl) ?_ _
                      refine NoPanic.normal ?_
                      have HBe := Lib.hid (HBs.out.trans (hB.mono HBs.out.size))
                      have HFe := Lib.hid (FmVals.ins (HFs.out.next hB) (u := (.slice Ap p.length cp)) rfl (HPs.out.next hB) k (by first | omega | simp))
                      have HVe := Lib.hid h9.vals
                      clear hB h9 hHeld
                      go_wp2_with fail
                      go_roundw
                      case rel => exact ⟨j + 1, us.take k ++ [(.slice Ap p.length cp)] ++ us.drop k, by omega, by go_num, HVe, Lib.hid (fun e => by simp at e), by rw [HNx.out, HIns.out]; exact HFe, HBe⟩
                      case measure => simp [intOf]; omega
                  refine AllReadyH.cons (o := ⟨some 67, _, _, _, _, _⟩) rfl (fun K hK => ?_) AllReadyH.nil
                  · refine stepv_slice1 22 34 rfl _ (.slice Ap p.length cp) rfl rfl (run_fms1 _ _ _) (fun g8 w3 h8 hb3 hg8 => ?_)
                    try have hne : g8 ≠ g4 := by have := h4.lt; omega
                    try have h4 := h4.step hb3 rfl
                    try have h6 := h6.next hb3
                    have hB := hB.trans (hb3.mono hB.size)
                    clear hb3 hg8
                    try dsimp only
                    refine hK.out _ _ ?_ (fun hHeld => ?_)
                    · trivial
                    clear hK K
                    try simp only [Act.put, List.setIfInBounds_toArray, List.set_cons_zero, List.set_cons_succ]
                    refine wpAnyH_ready (rs := [0]) (by kernel_rfl) (by simp) ?_
                    refine AllReadyH.cons (o := ⟨some 61, _, _, _, _, _⟩) rfl (fun K hK => ?_) AllReadyH.nil
                    refine stepv_slice0 22 34 rfl rfl run_fms0 (fun g4 w3 h4 hb3 hg4 => ?_)
                    have hg4b : ws.heap.size ≤ g4 := Nat.le_trans hB.size hg4
                    try have hne : g8 ≠ g4 := by have := h8.lt; omega
                    try have h8 := h8.step hb3 rfl
                    have hB := hB.trans (hb3.mono hB.size)
                    clear hb3 hg4
                    try dsimp only
                    refine hK.out _ _ ?_ (fun hHeld => ?_)
                    · trivial
                    clear hK K
                    try simp only [Act.put, List.setIfInBounds_toArray, List.set_cons_zero, List.set_cons_succ]
                    refine wpAnyH_ready (rs := [4]) (by kernel_rfl) (by simp) ?_
                    refine AllReadyH.cons (o := ⟨some 65, _, _, _, _, _⟩) rfl (fun K hK => ?_) AllReadyH.nil
                    refine stepv_append rfl _ _ 22 rfl _ _ rfl rfl (append_vals (E := 34) Try.underlying22 hi0 hz0 hz1 hz2 rfl (by decide) _ ws.heap.size _ [] (us.take k) (some ⟨b6, o6, none⟩) k _ _ (VRow.empty h4 hg4b) hB.size ((HVs.out.next hB).take k (by omega)) (fun u hu => HF4.out.2.1 u (List.mem_of_mem_take hu)) (by simp <;> omega)) ?_
                    rintro v6 w3 ⟨h6, hgr⟩
                    try have h8 := at_keep h8 hgr (fun q => hne (by injection q with q; exact q.symm))
                    have hB := below_gr hB hB.size hgr (fun q hq => by have e : g4 = q := Option.some.inj hq; omega)
                    clear hgr h4 hg4b
                    try clear hne
                    rw [List.nil_append] at h6
                    refine hK.out _ _ ?_ (fun hHeld => ?_)
                    · trivial
                    clear hK K
                    try simp only [Act.put, List.setIfInBounds_toArray, List.set_cons_zero, List.set_cons_succ]
                    refine wpAnyH_ready (rs := [7]) (by kernel_rfl) (by simp) ?_
                    refine AllReadyH.cons (o := ⟨some 68, _, _, _, _, _⟩) rfl (fun K hK => ?_) AllReadyH.nil
                    refine stepv_append rfl _ _ 22 rfl _ _ rfl rfl (append_vals (E := 34) Try.underlying22 hi0 hz0 hz1 hz2 rfl (by decide) _ ws.heap.size v6 _ [(.slice Ap p.length cp)] (some ⟨g8, 0, none⟩) 1 1 _ h6 hB.size (one_vals h8) (fun u hu => by rw [List.mem_singleton.1 hu]; rfl) (by simp <;> omega)) ?_
                    rintro v7 w3 ⟨h7, hgr⟩
                    have hrow := h6.low
                    have hB := below_gr hB hB.size hgr hrow
                    clear hgr h6 h8 hrow
                    refine hK.out _ _ ?_ (fun hHeld => ?_)
                    · trivial
                    clear hK K
                    try simp only [Act.put, List.setIfInBounds_toArray, List.set_cons_zero, List.set_cons_succ]
                    refine wpAnyH_ready (rs := [11]) (by kernel_rfl) (by simp) ?_
                    refine AllReadyH.cons (o := ⟨some 72, _, _, _, _, _⟩) rfl (fun K hK => ?_) AllReadyH.nil
                    refine stepv_append rfl _ _ 22 rfl _ _ rfl rfl (append_vals (E := 34) Try.underlying22 hi0 hz0 hz1 hz2 rfl (by decide) _ ws.heap.size v7 _ (us.drop k) (some ⟨b6, o6 + k, none⟩) _ _ _ h7 hB.size ((HVs.out.next hB).drop rfl k (cu - k) (by omega) rfl) (fun u hu => HF4.out.2.1 u (List.mem_of_mem_drop hu)) (by simp <;> omega)) ?_
                    rintro v9 w3 ⟨h9, hgr⟩
                    have hrow := h7.low
                    have hB := below_gr hB hB.size hgr hrow
                    clear hgr h7 hrow
                    refine hK.out _ _ ?_ (fun hHeld => ?_)
                    · trivial
                    clear hK K
                    try simp only [Act.put, List.setIfInBounds_toArray, List.set_cons_zero, List.set_cons_succ]
                    refine wpAnyH_take (i := 12) (oi := ⟨some 5, _, _, _, _, _⟩) (v := ?_) rfl (by kernel_rfl) (by kernel_rfl) (by kernel_rfl) (fun _ _ _ h => h) (Or.inl ⟨by rfl, ?_⟩) (by exact hHeld) ?_
                    rotate_left
                    · (intro w hSw; (try dsimp only at hSw); go_simp; try (with_reducible rfl))
                    simp only [Act.put, List.setIfInBounds_toArray, List.set_cons_zero, List.set_cons_succ]
                    refine wpAnyH_done (by kernel_rfl) ?_ _
                    refine NoPanic.normal ?_
                    have HBe := Lib.hid (HBs.out.trans (hB.mono HBs.out.size))
                    have HFe := Lib.hid (FmVals.ins (HFs.out.next hB) (u := (.slice Ap p.length cp)) rfl (HPs.out.next hB) k (by first | omega | simp))
                    have HVe := Lib.hid h9.vals
                    clear hB h9 hHeld
                    go_wp2_with fail
                    go_roundw
                    case rel => exact ⟨j + 1, us.take k ++ [(.slice Ap p.length cp)] ++ us.drop k, by omega, by go_num, HVe, Lib.hid (fun e => by simp at e), by rw [HNx.out, HIns.out]; exact HFe, HBe⟩
                    case measure => simp [intOf]; omega
                · have hkt : k < t := by
                    by_cases hc : k < t
                    · exact hc
                    · have e : k = t := by omega
                      have := HTn.out (by rw [← HUs.out]; omega)
                      rw [← e, HP6e.out, HLv.out] at this; cases this
                  go_wp2_with fail
                  go_roundw
                  case rel => exact ⟨k + 1, q + q5, by omega, by go_num, by first | rfl | rw [World.drewN_drewN]⟩
                  case measure => simp [intOf]; omega
              · have hkt : k = t := by have := HUs.out; omega
                have h8 : ¬ (k : Int) < (us.length : Int) := by omega
                have h9 : decide (k < us.length) = false := decide_eq_false hkf
                have hkl2 : k = us.length := by have := HUs.out; omega
                subst hkt
                have hcu := HV4.out.cap
                by_cases hue : us = []
                · have hv0 := HVn.out hue
                  injection hv0 with hv1 _ hv3
                  subst hue
                  subst hv1 hv3
                  obtain rfl : k = 0 := by simpa using hkl2
                  clear hkl2 hcu hul
                  go_wp2_with fail
                  obtain ⟨ws, hws⟩ : ∃ ws, ws = w4.drewN (q) := ⟨_, rfl⟩
                  have HBs : Hid (Below w.heap.size w ws) := Lib.hid (by rw [hws]; exact below_dn HB4.out _)
                  skip
                  have HFs : Hid (FmVals ws ([] : List Value) f) := Lib.hid (by rw [hws]; exact HF4.out)
                  have HPs : Hid (IntsAt ws (.slice Ap p.length cp) p) := Lib.hid (by rw [hws]; exact HP4.out)
                  first | rw [← hws] | rw [World.drewN_drewN, ← hws]
                  clear hws
                  refine wp_region_noPanic ?_
                  refine wp_region_held_drew (S := (fun _ => True)) (by kernel_rfl) (by trivial) (fun hHeld => ?_)
                  have hB : Below ws.heap.size ws ws.drew := (Below.refl _ _).drew
                  refine wpAnyH_take (i := 1) (oi := ⟨some 62, _, _, _, _, _⟩) (v := ?_) rfl (by kernel_rfl) (by kernel_rfl) (by kernel_rfl) (fun _ _ _ h => h) (Or.inl ⟨by rfl, ?_⟩) (by exact hHeld) ?_
                  rotate_left
                  · (intro w hSw; (try dsimp only at hSw); go_simp; try (with_reducible rfl))
                  simp only [Act.put, List.setIfInBounds_toArray, List.set_cons_zero, List.set_cons_succ]
                  refine wpAnyH_take (i := 2) (oi := ⟨some 63, _, _, _, _, _⟩) (v := ?_) rfl (by kernel_rfl) (by kernel_rfl) (by kernel_rfl) (fun _ _ _ h => h) (Or.inl ⟨by rfl, ?_⟩) (by exact hHeld) ?_
                  rotate_left
                  · (intro w hSw; (try dsimp only at hSw); go_simp; try (with_reducible rfl))
                  simp only [Act.put, List.setIfInBounds_toArray, List.set_cons_zero, List.set_cons_succ]
                  refine wpAnyH_take (i := 3) (oi := ⟨some 64, _, _, _, _, _⟩) (v := ?_) rfl (by kernel_rfl) (by kernel_rfl) (by kernel_rfl) (fun _ _ _ h => h) (Or.inl ⟨by rfl, ?_⟩) (by exact hHeld) ?_
                  rotate_left
                  · (intro w hSw; (try dsimp only at hSw); go_simp; try (with_reducible rfl))
                  simp only [Act.put, List.setIfInBounds_toArray, List.set_cons_zero, List.set_cons_succ]
                  refine wpAnyH_take (i := 5) (oi := ⟨some 66, _, _, _, _, _⟩) (v := ?_) rfl (by kernel_rfl) (by kernel_rfl) (by kernel_rfl) (fun _ _ _ h => h) (Or.inl ⟨by rfl, ?_⟩) (by exact hHeld) ?_
                  rotate_left
                  · (intro w hSw; (try dsimp only at hSw); go_simp; try (with_reducible rfl))
                  simp only [Act.put, List.setIfInBounds_toArray, List.set_cons_zero, List.set_cons_succ]
                  refine wpAnyH_take (i := 8) (oi := ⟨some 69, _, _, _, _, _⟩) (v := ?_) rfl (by kernel_rfl) (by kernel_rfl) (by kernel_rfl) (fun _ _ _ h => h) (Or.inl ⟨by rfl, ?_⟩) (by exact hHeld) ?_
                  rotate_left
                  · (intro w hSw; (try dsimp only at hSw); go_simp; try (with_reducible rfl))
                  simp only [Act.put, List.setIfInBounds_toArray, List.set_cons_zero, List.set_cons_succ]
                  refine wpAnyH_take (i := 9) (oi := ⟨some 70, _, _, _, _, _⟩) (v := ?_) rfl (by kernel_rfl) (by kernel_rfl) (by kernel_rfl) (fun _ _ _ h => h) (Or.inl ⟨by rfl, ?_⟩) (by exact hHeld) ?_
                  rotate_left
                  · (intro w hSw; (try dsimp only at hSw); go_simp; try (with_reducible rfl))
                  simp only [Act.put, List.setIfInBounds_toArray, List.set_cons_zero, List.set_cons_succ]
                  refine wpAnyH_take (i := 10) (oi := ⟨some 71, _, _, _, _, _⟩) (v := ?_) rfl (by kernel_rfl) (by kernel_rfl) (by kernel_rfl) (fun _ _ _ h => h) (Or.inl ⟨by rfl, ?_⟩) (by exact hHeld) ?_
                  rotate_left
                  · (intro w hSw; (try dsimp only at hSw); go_simp; try (with_reducible rfl))
                  simp only [Act.put, List.setIfInBounds_toArray, List.set_cons_zero, List.set_cons_succ]
                  refine wpAnyH_ready (rs := [0, 6]) (by kernel_rfl) (by simp) ?_
                  refine AllReadyH.cons (o := ⟨some 61, _, _, _, _, _⟩) rfl (fun K hK => ?_) ?_
                  · refine stepv_slice0 22 34 rfl rfl run_fms0 (fun g4 w3 h4 hb3 hg4 => ?_)
                    have hg4b : ws.heap.size ≤ g4 := Nat.le_trans hB.size hg4
                    try have hne : g8 ≠ g4 := by have := h8.lt; omega
                    try have h8 := h8.step hb3 rfl
                    have hB := hB.trans (hb3.mono hB.size)
                    clear hb3 hg4
                    try dsimp only
                    refine hK.out _ _ ?_ (fun hHeld => ?_)
                    · trivial
                    clear hK K
                    try simp only [Act.put, List.setIfInBounds_toArray, List.set_cons_zero, List.set_cons_succ]
                    refine wpAnyH_ready (rs := [4, 6]) (by kernel_rfl) (by simp) ?_
                    refine AllReadyH.cons (o := ⟨some 65, _, _, _, _, _⟩) rfl (fun K hK => ?_) ?_
                    · refine stepv_append rfl _ _ 22 rfl _ _ rfl rfl (append_vals (E := 34) Try.underlying22 hi0 hz0 hz1 hz2 rfl (by decide) _ ws.heap.size _ [] [] none 0 _ _ (VRow.empty h4 hg4b) hB.size (ValsAt.nil _) (fun u hu => by cases hu) (by simp <;> omega)) ?_
                      rintro v6 w3 ⟨h6, hgr⟩
                      try have h8 := at_keep h8 hgr (fun q => hne (by injection q with q; exact q.symm))
                      have hB := below_gr hB hB.size hgr (fun q hq => by have e : g4 = q := Option.some.inj hq; omega)
                      clear hgr h4 hg4b
                      try clear hne
                      rw [List.nil_append] at h6
                      refine hK.out _ _ ?_ (fun hHeld => ?_)
                      · trivial
                      clear hK K
                      try simp only [Act.put, List.setIfInBounds_toArray, List.set_cons_zero, List.set_cons_succ]
                      refine wpAnyH_ready (rs := [6]) (by kernel_rfl) (by simp) ?_
                      refine AllReadyH.cons (o := ⟨some 67, _, _, _, _, _⟩) rfl (fun K hK => ?_) AllReadyH.nil
                      refine stepv_slice1 22 34 rfl _ (.slice Ap p.length cp) rfl rfl (run_fms1 _ _ _) (fun g8 w3 h8 hb3 hg8 => ?_)
                      try have hne : g8 ≠ g4 := by have := h4.lt; omega
                      try have h4 := h4.step hb3 rfl
                      try have h6 := h6.next hb3
                      have hB := hB.trans (hb3.mono hB.size)
                      clear hb3 hg8
                      try dsimp only
                      refine hK.out _ _ ?_ (fun hHeld => ?_)
                      · trivial
                      clear hK K
                      try simp only [Act.put, List.setIfInBounds_toArray, List.set_cons_zero, List.set_cons_succ]
                      refine wpAnyH_ready (rs := [7]) (by kernel_rfl) (by simp) ?_
                      refine AllReadyH.cons (o := ⟨some 68, _, _, _, _, _⟩) rfl (fun K hK => ?_) AllReadyH.nil
                      refine stepv_append rfl _ _ 22 rfl _ _ rfl rfl (append_vals (E := 34) Try.underlying22 hi0 hz0 hz1 hz2 rfl (by decide) _ ws.heap.size v6 _ [(.slice Ap p.length cp)] (some ⟨g8, 0, none⟩) 1 1 _ h6 hB.size (one_vals h8) (fun u hu => by rw [List.mem_singleton.1 hu]; rfl) (by simp <;> omega)) ?_
                      rintro v7 w3 ⟨h7, hgr⟩
                      have hrow := h6.low
                      have hB := below_gr hB hB.size hgr hrow
                      clear hgr h6 h8 hrow
                      refine hK.out _ _ ?_ (fun hHeld => ?_)
                      · trivial
                      clear hK K
                      try simp only [Act.put, List.setIfInBounds_toArray, List.set_cons_zero, List.set_cons_succ]
                      refine wpAnyH_ready (rs := [11]) (by kernel_rfl) (by simp) ?_
                      refine AllReadyH.cons (o := ⟨some 72, _, _, _, _, _⟩) rfl (fun K hK => ?_) AllReadyH.nil
                      refine stepv_append rfl _ _ 22 rfl _ _ rfl rfl (append_vals (E := 34) Try.underlying22 hi0 hz0 hz1 hz2 rfl (by decide) _ ws.heap.size v7 _ [] none _ _ _ h7 hB.size (ValsAt.nil _) (fun u hu => by cases hu) (by simp <;> omega)) ?_
                      rintro v9 w3 ⟨h9, hgr⟩
                      have hrow := h7.low
                      have hB := below_gr hB hB.size hgr hrow
                      clear hgr h7 hrow
                      refine hK.out _ _ ?_ (fun hHeld => ?_)
                      · trivial
                      clear hK K
                      try simp only [Act.put, List.setIfInBounds_toArray, List.set_cons_zero, List.set_cons_succ]
                      refine wpAnyH_take (i := 12) (oi := ⟨some 5, _, _, _, _, _⟩) (v := ?_) rfl (by kernel_rfl) (by kernel_rfl) (by kernel_rfl) (fun _ _ _ h => h) (Or.inl ⟨by rfl, ?_⟩) (by exact hHeld) ?_
                      rotate_left
                      · (intro w hSw; (try dsimp only at hSw); go_simp; try (with_reducible rfl))
                      simp only [Act.put, List.setIfInBounds_toArray, List.set_cons_zero, List.set_cons_succ]
                      refine wpAnyH_done (by kernel_rfl) ?_ _
                      refine NoPanic.normal ?_
                      have HBe := Lib.hid (HBs.out.trans (hB.mono HBs.out.size))
                      have HFe := Lib.hid (FmVals.ins (HFs.out.next hB) (u := (.slice Ap p.length cp)) rfl (HPs.out.next hB) 0 (by first | omega | simp))
                      have HVe := Lib.hid h9.vals
                      clear hB h9 hHeld
                      go_wp2_with fail
                      go_roundw
                      case rel => exact ⟨j + 1, ([] : List Value).take 0 ++ [(.slice Ap p.length cp)] ++ ([] : List Value).drop 0, by omega, by go_num, HVe, Lib.hid (fun e => by simp at e), by rw [HNx.out, HIns.out]; exact HFe, HBe⟩
                      case measure => simp [intOf]; omega
                    refine AllReadyH.cons (o := ⟨some 67, _, _, _, _, _⟩) rfl (fun K hK => ?_) AllReadyH.nil
                    · refine stepv_slice1 22 34 rfl _ (.slice Ap p.length cp) rfl rfl (run_fms1 _ _ _) (fun g8 w3 h8 hb3 hg8 => ?_)
                      try have hne : g8 ≠ g4 := by have := h4.lt; omega
                      try have h4 := h4.step hb3 rfl
                      try have h6 := h6.next hb3
                      have hB := hB.trans (hb3.mono hB.size)
                      clear hb3 hg8
                      try dsimp only
                      refine hK.out _ _ ?_ (fun hHeld => ?_)
                      · trivial
                      clear hK K
                      try simp only [Act.put, List.setIfInBounds_toArray, List.set_cons_zero, List.set_cons_succ]
                      refine wpAnyH_ready (rs := [4]) (by kernel_rfl) (by simp) ?_
                      refine AllReadyH.cons (o := ⟨some 65, _, _, _, _, _⟩) rfl (fun K hK => ?_) AllReadyH.nil
                      refine stepv_append rfl _ _ 22 rfl _ _ rfl rfl (append_vals (E := 34) Try.underlying22 hi0 hz0 hz1 hz2 rfl (by decide) _ ws.heap.size _ [] [] none 0 _ _ (VRow.empty h4 hg4b) hB.size (ValsAt.nil _) (fun u hu => by cases hu) (by simp <;> omega)) ?_
                      rintro v6 w3 ⟨h6, hgr⟩
                      try have h8 := at_keep h8 hgr (fun q => hne (by injection q with q; exact q.symm))
                      have hB := below_gr hB hB.size hgr (fun q hq => by have e : g4 = q := Option.some.inj hq; omega)
                      clear hgr h4 hg4b
                      try clear hne
                      rw [List.nil_append] at h6
                      refine hK.out _ _ ?_ (fun hHeld => ?_)
                      · trivial
                      clear hK K
                      try simp only [Act.put, List.setIfInBounds_toArray, List.set_cons_zero, List.set_cons_succ]
                      refine wpAnyH_ready (rs := [7]) (by kernel_rfl) (by simp) ?_
                      refine AllReadyH.cons (o := ⟨some 68, _, _, _, _, _⟩) rfl (fun K hK => ?_) AllReadyH.nil
                      refine stepv_append rfl _ _ 22 rfl _ _ rfl rfl (append_vals (E := 34) Try.underlying22 hi0 hz0 hz1 hz2 rfl (by decide) _ ws.heap.size v6 _ [(.slice Ap p.length cp)] (some ⟨g8, 0, none⟩) 1 1 _ h6 hB.size (one_vals h8) (fun u hu => by rw [List.mem_singleton.1 hu]; rfl) (by simp <;> omega)) ?_
                      rintro v7 w3 ⟨h7, hgr⟩
                      have hrow := h6.low
                      have hB := below_gr hB hB.size hgr hrow
                      clear hgr h6 h8 hrow
                      refine hK.out _ _ ?_ (fun hHeld => ?_)
                      · trivial
                      clear hK K
                      try simp only [Act.put, List.setIfInBounds_toArray, List.set_cons_zero, List.set_cons_succ]
                      refine wpAnyH_ready (rs := [11]) (by kernel_rfl) (by simp) ?_
                      refine AllReadyH.cons (o := ⟨some 72, _, _, _, _, _⟩) rfl (fun K hK => ?_) AllReadyH.nil
                      refine stepv_append rfl _ _ 22 rfl _ _ rfl rfl (append_vals (E := 34) Try.underlying22 hi0 hz0 hz1 hz2 rfl (by decide) _ ws.heap.size v7 _ [] none _ _ _ h7 hB.size (ValsAt.nil _) (fun u hu => by cases hu) (by simp <;> omega)) ?_
                      rintro v9 w3 ⟨h9, hgr⟩
                      have hrow := h7.low
                      have hB := below_gr hB hB.size hgr hrow
                      clear hgr h7 hrow
                      refine hK.out _ _ ?_ (fun hHeld => ?_)
                      · trivial
                      clear hK K
                      try simp only [Act.put, List.setIfInBounds_toArray, List.set_cons_zero, List.set_cons_succ]
                      refine wpAnyH_take (i := 12) (oi := ⟨some 5, _, _, _, _, _⟩) (v := ?_) rfl (by kernel_rfl) (by kernel_rfl) (by kernel_rfl) (fun _ _ _ h => h) (Or.inl ⟨by rfl, ?_⟩) (by exact hHeld) ?_
                      rotate_left
                      · (intro w hSw; (try dsimp only at hSw); go_simp; try (with_reducible rfl))
                      simp only [Act.put, List.setIfInBounds_toArray, List.set_cons_zero, List.set_cons_succ]
                      refine wpAnyH_done (by kernel_rfl) ?_ _
                      refine NoPanic.normal ?_
                      have HBe := Lib.hid (HBs.out.trans (hB.mono HBs.out.size))
                      have HFe := Lib.hid (FmVals.ins (HFs.out.next hB) (u := (.slice Ap p.length cp)) rfl (HPs.out.next hB) 0 (by first | omega | simp))
                      have HVe := Lib.hid h9.vals
                      clear hB h9 hHeld
                      go_wp2_with fail
                      go_roundw
                      case rel => exact ⟨j + 1, ([] : List Value).take 0 ++ [(.slice Ap p.length cp)] ++ ([] : List Value).drop 0, by omega, by go_num, HVe, Lib.hid (fun e => by simp at e), by rw [HNx.out, HIns.out]; exact HFe, HBe⟩
                      case measure => simp [intOf]; omega
                  refine AllReadyH.cons (o := ⟨some 67, _, _, _, _, _⟩) rfl (fun K hK => ?_) AllReadyH.nil
                  · refine stepv_slice1 22 34 rfl _ (.slice Ap p.length cp) rfl rfl (run_fms1 _ _ _) (fun g8 w3 h8 hb3 hg8 => ?_)
                    try have hne : g8 ≠ g4 := by have := h4.lt; omega
                    try have h4 := h4.step hb3 rfl
                    try have h6 := h6.next hb3
                    have hB := hB.trans (hb3.mono hB.size)
                    clear hb3 hg8
                    try dsimp only
                    refine hK.out _ _ ?_ (fun hHeld => ?_)
                    · trivial
                    clear hK K
                    try simp only [Act.put, List.setIfInBounds_toArray, List.set_cons_zero, List.set_cons_succ]
                    refine wpAnyH_ready (rs := [0]) (by kernel_rfl) (by simp) ?_
                    refine AllReadyH.cons (o := ⟨some 61, _, _, _, _, _⟩) rfl (fun K hK => ?_) AllReadyH.nil
                    refine stepv_slice0 22 34 rfl rfl run_fms0 (fun g4 w3 h4 hb3 hg4 => ?_)
                    have hg4b : ws.heap.size ≤ g4 := Nat.le_trans hB.size hg4
                    try have hne : g8 ≠ g4 := by have := h8.lt; omega
                    try have h8 := h8.step hb3 rfl
                    have hB := hB.trans (hb3.mono hB.size)
                    clear hb3 hg4
                    try dsimp only
                    refine hK.out _ _ ?_ (fun hHeld => ?_)
                    · trivial
                    clear hK K
                    try simp only [Act.put, List.setIfInBounds_toArray, List.set_cons_zero, List.set_cons_succ]
                    refine wpAnyH_ready (rs := [4]) (by kernel_rfl) (by simp) ?_
                    refine AllReadyH.cons (o := ⟨some 65, _, _, _, _, _⟩) rfl (fun K hK => ?_) AllReadyH.nil
                    refine stepv_append rfl _ _ 22 rfl _ _ rfl rfl (append_vals (E := 34) Try.underlying22 hi0 hz0 hz1 hz2 rfl (by decide) _ ws.heap.size _ [] [] none 0 _ _ (VRow.empty h4 hg4b) hB.size (ValsAt.nil _) (fun u hu => by cases hu) (by simp <;> omega)) ?_
                    rintro v6 w3 ⟨h6, hgr⟩
                    try have h8 := at_keep h8 hgr (fun q => hne (by injection q with q; exact q.symm))
                    have hB := below_gr hB hB.size hgr (fun q hq => by have e : g4 = q := Option.some.inj hq; omega)
                    clear hgr h4 hg4b
                    try clear hne
                    rw [List.nil_append] at h6
                    refine hK.out _ _ ?_ (fun hHeld => ?_)
                    · trivial
                    clear hK K
                    try simp only [Act.put, List.setIfInBounds_toArray, List.set_cons_zero, List.set_cons_succ]
                    refine wpAnyH_ready (rs := [7]) (by kernel_rfl) (by simp) ?_
                    refine AllReadyH.cons (o := ⟨some 68, _, _, _, _, _⟩) rfl (fun K hK => ?_) AllReadyH.nil
                    refine stepv_append rfl _ _ 22 rfl _ _ rfl rfl (append_vals (E := 34) Try.underlying22 hi0 hz0 hz1 hz2 rfl (by decide) _ ws.heap.size v6 _ [(.slice Ap p.length cp)] (some ⟨g8, 0, none⟩) 1 1 _ h6 hB.size (one_vals h8) (fun u hu => by rw [List.mem_singleton.1 hu]; rfl) (by simp <;> omega)) ?_
                    rintro v7 w3 ⟨h7, hgr⟩
                    have hrow := h6.low
                    have hB := below_gr hB hB.size hgr hrow
                    clear hgr h6 h8 hrow
                    refine hK.out _ _ ?_ (fun hHeld => ?_)
                    · trivial
                    clear hK K
                    try simp only [Act.put, List.setIfInBounds_toArray, List.set_cons_zero, List.set_cons_succ]
                    refine wpAnyH_ready (rs := [11]) (by kernel_rfl) (by simp) ?_
                    refine AllReadyH.cons (o := ⟨some 72, _, _, _, _, _⟩) rfl (fun K hK => ?_) AllReadyH.nil
                    refine stepv_append rfl _ _ 22 rfl _ _ rfl rfl (append_vals (E := 34) Try.underlying22 hi0 hz0 hz1 hz2 rfl (by decide) _ ws.heap.size v7 _ [] none _ _ _ h7 hB.size (ValsAt.nil _) (fun u hu => by cases hu) (by simp <;> omega)) ?_
                    rintro v9 w3 ⟨h9, hgr⟩
                    have hrow := h7.low
                    have hB := below_gr hB hB.size hgr hrow
                    clear hgr h7 hrow
                    refine hK.out _ _ ?_ (fun hHeld => ?_)
                    · trivial
                    clear hK K
                    try simp only [Act.put, List.setIfInBounds_toArray, List.set_cons_zero, List.set_cons_succ]
                    refine wpAnyH_take (i := 12) (oi := ⟨some 5, _, _, _, _, _⟩) (v := ?_) rfl (by kernel_rfl) (by kernel_rfl) (by kernel_rfl) (fun _ _ _ h => h) (Or.inl ⟨by rfl, ?_⟩) (by exact hHeld) ?_
                    rotate_left
                    · (intro w hSw; (try dsimp only at hSw); go_simp; try (with_reducible rfl))
                    simp only [Act.put, List.setIfInBounds_toArray, List.set_cons_zero, List.set_cons_succ]
                    refine wpAnyH_done (by kernel_rfl) ?_ _
                    refine NoPanic.normal ?_
                    have HBe := Lib.hid (HBs.out.trans (hB.mono HBs.out.size))
                    have HFe := Lib.hid (FmVals.ins (HFs.out.next hB) (u := (.slice Ap p.length cp)) rfl (HPs.out.next hB) 0 (by first | omega | simp))
                    have HVe := Lib.hid h9.vals
                    clear hB h9 hHeld
                    go_wp2_with fail
                    go_roundw
                    case rel => exact ⟨j + 1, ([] : List Value).take 0 ++ [(.slice Ap p.length cp)] ++ ([] : List Value).drop 0, by omega, by go_num, HVe, Lib.hid (fun e => by simp at e), by rw [HNx.out, HIns.out]; exact HFe, HBe⟩
                    case measure => simp [intOf]; omega
                · have hlu : 0 < us.length := List.length_pos_iff.2 hue
                  have hV5 := HV4.out
                  obtain ⟨A5, c5, e5, _, _, h5⟩ := id hV5
                  injection e5 with e5 _ e6
                  subst e5 e6
                  obtain ⟨b6, o6, rfl, _, _⟩ := h5 hlu
                  clear h5 hV5 hue
                  have HDr : Hid (us.drop k = []) := Lib.hid (List.drop_of_length_le (by omega))
                  have hck0 : k ≤ us.length := by omega
                  have hkn : (k : Int) ≤ (us.length : Int) := by omega
                  have hcz : (us.length : Int) ≤ (cu : Int) := by omega
                  have hkc : (k : Int) ≤ (cu : Int) := by omega
                  clear hkl2
                  by_cases hce : cu = k
                  · obtain rfl : k = cu := hce.symm
                    go_wp2_with fail
                    obtain ⟨ws, hws⟩ : ∃ ws, ws = w4.drewN (q) := ⟨_, rfl⟩
                    have HBs : Hid (Below w.heap.size w ws) := Lib.hid (by rw [hws]; exact below_dn HB4.out _)
                    have HVs : Hid (ValsAt ws (.slice (some ⟨b6, o6, none⟩) us.length k) us) := Lib.hid (by rw [hws]; exact HV4.out)
                    have HFs : Hid (FmVals ws us f) := Lib.hid (by rw [hws]; exact HF4.out)
                    have HPs : Hid (IntsAt ws (.slice Ap p.length cp) p) := Lib.hid (by rw [hws]; exact HP4.out)
                    first | rw [← hws] | rw [World.drewN_drewN, ← hws]
                    clear hws
                    refine wp_region_noPanic ?_
                    refine wp_region_held_drew (S := (fun _ => True)) (by kernel_rfl) (by trivial) (fun hHeld => ?_)
                    have hB : Below ws.heap.size ws ws.drew := (Below.refl _ _).drew
                    refine wpAnyH_take (i := 1) (oi := ⟨some 62, _, _, _, _, _⟩) (v := ?_) rfl (by kernel_rfl) (by kernel_rfl) (by kernel_rfl) (fun _ _ _ h => h) (Or.inl ⟨by rfl, ?_⟩) (by exact hHeld) ?_
                    rotate_left
                    · (intro w hSw; (try dsimp only at hSw); go_simp; try (with_reducible rfl))
                    simp only [Act.put, List.setIfInBounds_toArray, List.set_cons_zero, List.set_cons_succ]
                    refine wpAnyH_take (i := 2) (oi := ⟨some 63, _, _, _, _, _⟩) (v := ?_) rfl (by kernel_rfl) (by kernel_rfl) (by kernel_rfl) (fun _ _ _ h => h) (Or.inl ⟨by rfl, ?_⟩) (by exact hHeld) ?_
                    rotate_left
                    · (intro w hSw; (try dsimp only at hSw); go_simp; try (with_reducible rfl))
                    simp only [Act.put, List.setIfInBounds_toArray, List.set_cons_zero, List.set_cons_succ]
                    refine wpAnyH_take (i := 3) (oi := ⟨some 64, _, _, _, _, _⟩) (v := ?_) rfl (by kernel_rfl) (by kernel_rfl) (by kernel_rfl) (fun _ _ _ h => h) (Or.inl ⟨by rfl, ?_⟩) (by exact hHeld) ?_
                    rotate_left
                    · (intro w hSw; (try dsimp only at hSw); go_simp; try (with_reducible rfl))
                    simp only [Act.put, List.setIfInBounds_toArray, List.set_cons_zero, List.set_cons_succ]
                    refine wpAnyH_take (i := 5) (oi := ⟨some 66, _, _, _, _, _⟩) (v := ?_) rfl (by kernel_rfl) (by kernel_rfl) (by kernel_rfl) (fun _ _ _ h => h) (Or.inl ⟨by rfl, ?_⟩) (by exact hHeld) ?_
                    rotate_left
                    · (intro w hSw; (try dsimp only at hSw); go_simp; try (with_reducible rfl))
                    simp only [Act.put, List.setIfInBounds_toArray, List.set_cons_zero, List.set_cons_succ]
                    refine wpAnyH_take (i := 8) (oi := ⟨some 69, _, _, _, _, _⟩) (v := ?_) rfl (by kernel_rfl) (by kernel_rfl) (by kernel_rfl) (fun _ _ _ h => h) (Or.inl ⟨by rfl, ?_⟩) (by exact hHeld) ?_
                    rotate_left
                    · (intro w hSw; (try dsimp only at hSw); go_simp; try (with_reducible rfl))
                    simp only [Act.put, List.setIfInBounds_toArray, List.set_cons_zero, List.set_cons_succ]
                    refine wpAnyH_take (i := 9) (oi := ⟨some 70, _, _, _, _, _⟩) (v := ?_) rfl (by kernel_rfl) (by kernel_rfl) (by kernel_rfl) (fun _ _ _ h => h) (Or.inl ⟨by rfl, ?_⟩) (by exact hHeld) ?_
                    rotate_left
                    · (intro w hSw; (try dsimp only at hSw); go_simp; try (with_reducible rfl))
                    simp only [Act.put, List.setIfInBounds_toArray, List.set_cons_zero, List.set_cons_succ]
                    refine wpAnyH_take (i := 10) (oi := ⟨some 71, _, _, _, _, _⟩) (v := ?_) rfl (by kernel_rfl) (by kernel_rfl) (by kernel_rfl) (fun _ _ _ h => h) (Or.inl ⟨by rfl, ?_⟩) (by exact hHeld) ?_
                    rotate_left
                    · (intro w hSw; (try dsimp only at hSw); go_simp; try (with_reducible rfl))
                    simp only [Act.put, List.setIfInBounds_toArray, List.set_cons_zero, List.set_cons_succ]
                    refine wpAnyH_ready (rs := [0, 6]) (by kernel_rfl) (by simp) ?_
                    refine AllReadyH.cons (o := ⟨some 61, _, _, _, _, _⟩) rfl (fun K hK => ?_) ?_
                    · refine stepv_slice0 22 34 rfl rfl run_fms0 (fun g4 w3 h4 hb3 hg4 => ?_)
                      have hg4b : ws.heap.size ≤ g4 := Nat.le_trans hB.size hg4
                      try have hne : g8 ≠ g4 := by have := h8.lt; omega
                      try have h8 := h8.step hb3 rfl
                      have hB := hB.trans (hb3.mono hB.size)
                      clear hb3 hg4
                      try dsimp only
                      refine hK.out _ _ ?_ (fun hHeld => ?_)
                      · trivial
                      clear hK K
                      try simp only [Act.put, List.setIfInBounds_toArray, List.set_cons_zero, List.set_cons_succ]
                      refine wpAnyH_ready (rs := [4, 6]) (by kernel_rfl) (by simp) ?_
                      refine AllReadyH.cons (o := ⟨some 65, _, _, _, _, _⟩) rfl (fun K hK => ?_) ?_
                      · refine stepv_append rfl _ _ 22 rfl _ _ rfl rfl (append_vals (E := 34) Try.underlying22 hi0 hz0 hz1 hz2 rfl (by decide) _ ws.heap.size _ [] (us.take k) (some ⟨b6, o6, none⟩) k _ _ (VRow.empty h4 hg4b) hB.size ((HVs.out.next hB).take k (by omega)) (fun u hu => HF4.out.2.1 u (List.mem_of_mem_take hu)) (by simp <;> omega)) ?_
                        rintro v6 w3 ⟨h6, hgr⟩
                        try have h8 := at_keep h8 hgr (fun q => hne (by injection q with q; exact q.symm))
                        have hB := below_gr hB hB.size hgr (fun q hq => by have e : g4 = q := Option.some.inj hq; omega)
                        clear hgr h4 hg4b
                        try clear hne
                        rw [List.nil_append] at h6
                        refine hK.out _ _ ?_ (fun hHeld => ?_)
                        · trivial
                        clear hK K
                        try simp only [Act.put, List.setIfInBounds_toArray, List.set_cons_zero, List.set_cons_succ]
                        refine wpAnyH_ready (rs := [6]) (by kernel_rfl) (by simp) ?_
                        refine AllReadyH.cons (o := ⟨some 67, _, _, _, _, _⟩) rfl (fun K hK => ?_) AllReadyH.nil
                        refine stepv_slice1 22 34 rfl _ (.slice Ap p.length cp) rfl rfl (run_fms1 _ _ _) (fun g8 w3 h8 hb3 hg8 => ?_)
                        try have hne : g8 ≠ g4 := by have := h4.lt; omega
                        try have h4 := h4.step hb3 rfl
                        try have h6 := h6.next hb3
                        have hB := hB.trans (hb3.mono hB.size)
                        clear hb3 hg8
                        try dsimp only
                        refine hK.out _ _ ?_ (fun hHeld => ?_)
                        · trivial
                        clear hK K
                        try simp only [Act.put, List.setIfInBounds_toArray, List.set_cons_zero, List.set_cons_succ]
                        refine wpAnyH_ready (rs := [7]) (by kernel_rfl) (by simp) ?_
                        refine AllReadyH.cons (o := ⟨some 68, _, _, _, _, _⟩) rfl (fun K hK => ?_) AllReadyH.nil
                        refine stepv_append rfl _ _ 22 rfl _ _ rfl rfl (append_vals (E := 34) Try.underlying22 hi0 hz0 hz1 hz2 rfl (by decide) _ ws.heap.size v6 _ [(.slice Ap p.length cp)] (some ⟨g8, 0, none⟩) 1 1 _ h6 hB.size (one_vals h8) (fun u hu => by rw [List.mem_singleton.1 hu]; rfl) (by simp <;> omega)) ?_
                        rintro v7 w3 ⟨h7, hgr⟩
                        have hrow := h6.low
                        have hB := below_gr hB hB.size hgr hrow
                        clear hgr h6 h8 hrow
                        refine hK.out _ _ ?_ (fun hHeld => ?_)
                        · trivial
                        clear hK K
                        try simp only [Act.put, List.setIfInBounds_toArray, List.set_cons_zero, List.set_cons_succ]
                        refine wpAnyH_ready (rs := [11]) (by kernel_rfl) (by simp) ?_
                        refine AllReadyH.cons (o := ⟨some 72, _, _, _, _, _⟩) rfl (fun K hK => ?_) AllReadyH.nil
                        refine stepv_append rfl _ _ 22 rfl _ _ rfl rfl (append_vals (E := 34) Try.underlying22 hi0 hz0 hz1 hz2 rfl (by decide) _ ws.heap.size v7 _ (us.drop k) (some ⟨b6, o6, none⟩) _ _ _ h7 hB.size (by rw [HDr.out]; exact ValsAt.zero _ _ _ (fun q => by cases q) (by omega)) (fun u hu => HF4.out.2.1 u (List.mem_of_mem_drop hu)) (by simp <;> omega)) ?_
                        rintro v9 w3 ⟨h9, hgr⟩
                        have hrow := h7.low
                        have hB := below_gr hB hB.size hgr hrow
                        clear hgr h7 hrow
                        refine hK.out _ _ ?_ (fun hHeld => ?_)
                        · trivial
                        clear hK K
                        try simp only [Act.put, List.setIfInBounds_toArray, List.set_cons_zero, List.set_cons_succ]
                        refine wpAnyH_take (i := 12) (oi := ⟨some 5, _, _, _, _, _⟩) (v := ?_) rfl (by kernel_rfl) (by kernel_rfl) (by kernel_rfl) (fun _ _ _ h => h) (Or.inl ⟨by rfl, ?_⟩) (by exact hHeld) ?_
                        rotate_left
                        · (intro w hSw; (try dsimp only at hSw); go_simp; try (with_reducible rfl))
                        simp only [Act.put, List.setIfInBounds_toArray, List.set_cons_zero, List.set_cons_succ]
                        refine wpAnyH_done (by kernel_rfl) ?_ _
                        refine NoPanic.normal ?_
                        have HBe := Lib.hid (HBs.out.trans (hB.mono HBs.out.size))
                        have HFe := Lib.hid (FmVals.ins (HFs.out.next hB) (u := (.slice Ap p.length cp)) rfl (HPs.out.next hB) k (by first | omega | simp))
                        have HVe := Lib.hid h9.vals
                        clear hB h9 hHeld
                        go_wp2_with fail
                        go_roundw
                        case rel => exact ⟨j + 1, us.take k ++ [(.slice Ap p.length cp)] ++ us.drop k, by omega, by go_num, HVe, Lib.hid (fun e => by simp at e), by rw [HNx.out, HIns.out]; exact HFe, HBe⟩
                        case measure => simp [intOf]; omega
                      refine AllReadyH.cons (o := ⟨some 67, _, _, _, _, _⟩) rfl (fun K hK => ?_) AllReadyH.nil
                      · refine stepv_slice1 22 34 rfl _ (.slice Ap p.length cp) rfl rfl (run_fms1 _ _ _) (fun g8 w3 h8 hb3 hg8 => ?_)
                        try have hne : g8 ≠ g4 := by have := h4.lt; omega
                        try have h4 := h4.step hb3 rfl
                        try have h6 := h6.next hb3
                        have hB := hB.trans (hb3.mono hB.size)
                        clear hb3 hg8
                        try dsimp only
                        refine hK.out _ _ ?_ (fun hHeld => ?_)
                        · trivial
                        clear hK K
                        try simp only [Act.put, List.setIfInBounds_toArray, List.set_cons_zero, List.set_cons_succ]
                        refine wpAnyH_ready (rs := [4]) (by kernel_rfl) (by simp) ?_
                        refine AllReadyH.cons (o := ⟨some 65, _, _, _, _, _⟩) rfl (fun K hK => ?_) AllReadyH.nil
                        refine stepv_append rfl _ _ 22 rfl _ _ rfl rfl (append_vals (E := 34) Try.underlying22 hi0 hz0 hz1 hz2 rfl (by decide) _ ws.heap.size _ [] (us.take k) (some ⟨b6, o6, none⟩) k _ _ (VRow.empty h4 hg4b) hB.size ((HVs.out.next hB).take k (by omega)) (fun u hu => HF4.out.2.1 u (List.mem_of_mem_take hu)) (by simp <;> omega)) ?_
                        rintro v6 w3 ⟨h6, hgr⟩
                        try have h8 := at_keep h8 hgr (fun q => hne (by injection q with q; exact q.symm))
                        have hB := below_gr hB hB.size hgr (fun q hq => by have e : g4 = q := Option.some.inj hq; omega)
                        clear hgr h4 hg4b
                        try clear hne
                        rw [List.nil_append] at h6
                        refine hK.out _ _ ?_ (fun hHeld => ?_)
                        · trivial
                        clear hK K
                        try simp only [Act.put, List.setIfInBounds_toArray, List.set_cons_zero, List.set_cons_succ]
                        refine wpAnyH_ready (rs := [7]) (by kernel_rfl) (by simp) ?_
                        refine AllReadyH.cons (o := ⟨some 68, _, _, _, _, _⟩) rfl (fun K hK => ?_) AllReadyH.nil
                        refine stepv_append rfl _ _ 22 rfl _ _ rfl rfl (append_vals (E := 34) Try.underlying22 hi0 hz0 hz1 hz2 rfl (by decide) _ ws.heap.size v6 _ [(.slice Ap p.length cp)] (some ⟨g8, 0, none⟩) 1 1 _ h6 hB.size (one_vals h8) (fun u hu => by rw [List.mem_singleton.1 hu]; rfl) (by simp <;> omega)) ?_
                        rintro v7 w3 ⟨h7, hgr⟩
                        have hrow := h6.low
                        have hB := below_gr hB hB.size hgr hrow
                        clear hgr h6 h8 hrow
                        refine hK.out _ _ ?_ (fun hHeld => ?_)
                        · trivial
                        clear hK K
                        try simp only [Act.put, List.setIfInBounds_toArray, List.set_cons_zero, List.set_cons_succ]
                        refine wpAnyH_ready (rs := [11]) (by kernel_rfl) (by simp) ?_
                        refine AllReadyH.cons (o := ⟨some 72, _, _, _, _, _⟩) rfl (fun K hK => ?_) AllReadyH.nil
                        refine stepv_append rfl _ _ 22 rfl _ _ rfl rfl (append_vals (E := 34) Try.underlying22 hi0 hz0 hz1 hz2 rfl (by decide) _ ws.heap.size v7 _ (us.drop k) (some ⟨b6, o6, none⟩) _ _ _ h7 hB.size (by rw [HDr.out]; exact ValsAt.zero _ _ _ (fun q => by cases q) (by omega)) (fun u hu => HF4.out.2.1 u (List.mem_of_mem_drop hu)) (by simp <;> omega)) ?_
                        rintro v9 w3 ⟨h9, hgr⟩
                        have hrow := h7.low
                        have hB := below_gr hB hB.size hgr hrow
                        clear hgr h7 hrow
                        refine hK.out _ _ ?_ (fun hHeld => ?_)
                        · trivial
                        clear hK K
                        try simp only [Act.put, List.setIfInBounds_toArray, List.set_cons_zero, List.set_cons_succ]
                        refine wpAnyH_take (i := 12) (oi := ⟨some 5, _, _, _, _, _⟩) (v := ?_) rfl (by kernel_rfl) (by kernel_rfl) (by kernel_rfl) (fun _ _ _ h => h) (Or.inl ⟨by rfl, ?_⟩) (by exact hHeld) ?_
                        rotate_left
                        · (intro w hSw; (try dsimp only at hSw); go_simp; try (with_reducible rfl))
                        simp only [Act.put, List.setIfInBounds_toArray, List.set_cons_zero, List.set_cons_succ]
                        refine wpAnyH_done (by kernel_rfl) ?_ _
                        refine NoPanic.normal ?_
                        have HBe := Lib.hid (HBs.out.trans (hB.mono HBs.out.size))
                        have HFe := Lib.hid (FmVals.ins (HFs.out.next hB) (u := (.slice Ap p.length cp)) rfl (HPs.out.next hB) k (by first | omega | simp))
                        have HVe := Lib.hid h9.vals
                        clear hB h9 hHeld
                        go_wp2_with fail
                        go_roundw
                        case rel => exact ⟨j + 1, us.take k ++ [(.slice Ap p.length cp)] ++ us.drop k, by omega, by go_num, HVe, Lib.hid (fun e => by simp at e), by rw [HNx.out, HIns.out]; exact HFe, HBe⟩
                        case measure => simp [intOf]; omega
                    refine AllReadyH.cons (o := ⟨some 67, _, _, _, _, _⟩) rfl (fun K hK => ?_) AllReadyH.nil
                    · refine stepv_slice1 22 34 rfl _ (.slice Ap p.length cp) rfl rfl (run_fms1 _ _ _) (fun g8 w3 h8 hb3 hg8 => ?_)
                      try have hne : g8 ≠ g4 := by have := h4.lt; omega
                      try have h4 := h4.step hb3 rfl
                      try have h6 := h6.next hb3
                      have hB := hB.trans (hb3.mono hB.size)
                      clear hb3 hg8
                      try dsimp only
                      refine hK.out _ _ ?_ (fun hHeld => ?_)
                      · trivial
                      clear hK K
                      try simp only [Act.put, List.setIfInBounds_toArray, List.set_cons_zero, List.set_cons_succ]
                      refine wpAnyH_ready (rs := [0]) (by kernel_rfl) (by simp) ?_
                      refine AllReadyH.cons (o := ⟨some 61, _, _, _, _, _⟩) rfl (fun K hK => ?_) AllReadyH.nil
                      refine stepv_slice0 22 34 rfl rfl run_fms0 (fun g4 w3 h4 hb3 hg4 => ?_)
                      have hg4b : ws.heap.size ≤ g4 := Nat.le_trans hB.size hg4
                      try have hne : g8 ≠ g4 := by have := h8.lt; omega
                      try have h8 := h8.step hb3 rfl
                      have hB := hB.trans (hb3.mono hB.size)
                      clear hb3 hg4
                      try dsimp only
                      refine hK.out _ _ ?_ (fun hHeld => ?_)
                      · trivial
                      clear hK K
                      try simp only [Act.put, List.setIfInBounds_toArray, List.set_cons_zero, List.set_cons_succ]
                      refine wpAnyH_ready (rs := [4]) (by kernel_rfl) (by simp) ?_
                      refine AllReadyH.cons (o := ⟨some 65, _, _, _, _, _⟩) rfl (fun K hK => ?_) AllReadyH.nil
                      refine stepv_append rfl _ _ 22 rfl _ _ rfl rfl (append_vals (E := 34) Try.underlying22 hi0 hz0 hz1 hz2 rfl (by decide) _ ws.heap.size _ [] (us.take k) (some ⟨b6, o6, none⟩) k _ _ (VRow.empty h4 hg4b) hB.size ((HVs.out.next hB).take k (by omega)) (fun u hu => HF4.out.2.1 u (List.mem_of_mem_take hu)) (by simp <;> omega)) ?_
                      rintro v6 w3 ⟨h6, hgr⟩
                      try have h8 := at_keep h8 hgr (fun q => hne (by injection q with q; exact q.symm))
                      have hB := below_gr hB hB.size hgr (fun q hq => by have e : g4 = q := Option.some.inj hq; omega)
                      clear hgr h4 hg4b
                      try clear hne
                      rw [List.nil_append] at h6
                      refine hK.out _ _ ?_ (fun hHeld => ?_)
                      · trivial
                      clear hK K
                      try simp only [Act.put, List.setIfInBounds_toArray, List.set_cons_zero, List.set_cons_succ]
                      refine wpAnyH_ready (rs := [7]) (by kernel_rfl) (by simp) ?_
                      refine AllReadyH.cons (o := ⟨some 68, _, _, _, _, _⟩) rfl (fun K hK => ?_) AllReadyH.nil
                      refine stepv_append rfl _ _ 22 rfl _ _ rfl rfl (append_vals (E := 34) Try.underlying22 hi0 hz0 hz1 hz2 rfl (by decide) _ ws.heap.size v6 _ [(.slice Ap p.length cp)] (some ⟨g8, 0, none⟩) 1 1 _ h6 hB.size (one_vals h8) (fun u hu => by rw [List.mem_singleton.1 hu]; rfl) (by simp <;> omega)) ?_
                      rintro v7 w3 ⟨h7, hgr⟩
                      have hrow := h6.low
                      have hB := below_gr hB hB.size hgr hrow
                      clear hgr h6 h8 hrow
                      refine hK.out _ _ ?_ (fun hHeld => ?_)
                      · trivial
                      clear hK K
                      try simp only [Act.put, List.setIfInBounds_toArray, List.set_cons_zero, List.set_cons_succ]
                      refine wpAnyH_ready (rs := [11]) (by kernel_rfl) (by simp) ?_
                      refine AllReadyH.cons (o := ⟨some 72, _, _, _, _, _⟩) rfl (fun K hK => ?_) AllReadyH.nil
                      refine stepv_append rfl _ _ 22 rfl _ _ rfl rfl (append_vals (E := 34) Try.underlying22 hi0 hz0 hz1 hz2 rfl (by decide) _ ws.heap.size v7 _ (us.drop k) (some ⟨b6, o6, none⟩) _ _ _ h7 hB.size (by rw [HDr.out]; exact ValsAt.zero _ _ _ (fun q => by cases q) (by omega)) (fun u hu => HF4.out.2.1 u (List.mem_of_mem_drop hu)) (by simp <;> omega)) ?_
                      rintro v9 w3 ⟨h9, hgr⟩
                      have hrow := h7.low
                      have hB := below_gr hB hB.size hgr hrow
                      clear hgr h7 hrow
                      refine hK.out _ _ ?_ (fun hHeld => ?_)
                      · trivial
                      clear hK K
                      try simp only [Act.put, List.setIfInBounds_toArray, List.set_cons_zero, List.set_cons_succ]
                      refine wpAnyH_take (i := 12) (oi := ⟨some 5, _, _, _, _, _⟩) (v := ?_) rfl (by kernel_rfl) (by kernel_rfl) (by kernel_rfl) (fun _ _ _ h => h) (Or.inl ⟨by rfl, ?_⟩) (by exact hHeld) ?_
                      rotate_left
                      · (intro w hSw; (try dsimp only at hSw); go_simp; try (with_reducible rfl))
                      simp only [Act.put, List.setIfInBounds_toArray, List.set_cons_zero, List.set_cons_succ]
                      refine wpAnyH_done (by kernel_rfl) ?_ _
                      refine NoPanic.normal ?_
                      have HBe := Lib.hid (HBs.out.trans (hB.mono HBs.out.size))
                      have HFe := Lib.hid (FmVals.ins (HFs.out.next hB) (u := (.slice Ap p.length cp)) rfl (HPs.out.next hB) k (by first | omega | simp))
                      have HVe := Lib.hid h9.vals
                      clear hB h9 hHeld
                      go_wp2_with fail
                      go_roundw
                      case rel => exact ⟨j + 1, us.take k ++ [(.slice Ap p.length cp)] ++ us.drop k, by omega, by go_num, HVe, Lib.hid (fun e => by simp at e), by rw [HNx.out, HIns.out]; exact HFe, HBe⟩
                      case measure => simp [intOf]; omega
                  · have hck : ¬ cu = k := hce
                    have hck2 : ¬ k = cu := by omega
                    go_wp2_with fail
                    obtain ⟨ws, hws⟩ : ∃ ws, ws = w4.drewN (q) := ⟨_, rfl⟩
                    have HBs : Hid (Below w.heap.size w ws) := Lib.hid (by rw [hws]; exact below_dn HB4.out _)
                    have HVs : Hid (ValsAt ws (.slice (some ⟨b6, o6, none⟩) us.length cu) us) := Lib.hid (by rw [hws]; exact HV4.out)
                    have HFs : Hid (FmVals ws us f) := Lib.hid (by rw [hws]; exact HF4.out)
                    have HPs : Hid (IntsAt ws (.slice Ap p.length cp) p) := Lib.hid (by rw [hws]; exact HP4.out)
                    first | rw [← hws] | rw [World.drewN_drewN, ← hws]
                    clear hws
                    refine wp_region_noPanic ?_
                    refine wp_region_held_drew (S := (fun _ => True)) (by kernel_rfl) (by trivial) (fun hHeld => ?_)
                    have hB : Below ws.heap.size ws ws.drew := (Below.refl _ _).drew
                    refine wpAnyH_take (i := 1) (oi := ⟨some 62, _, _, _, _, _⟩) (v := ?_) rfl (by kernel_rfl) (by kernel_rfl) (by kernel_rfl) (fun _ _ _ h => h) (Or.inl ⟨by rfl, ?_⟩) (by exact hHeld) ?_
                    rotate_left
                    · (intro w hSw; (try dsimp only at hSw); go_simp; try (with_reducible rfl))
                    simp only [Act.put, List.setIfInBounds_toArray, List.set_cons_zero, List.set_cons_succ]
                    refine wpAnyH_take (i := 2) (oi := ⟨some 63, _, _, _, _, _⟩) (v := ?_) rfl (by kernel_rfl) (by kernel_rfl) (by kernel_rfl) (fun _ _ _ h => h) (Or.inl ⟨by rfl, ?_⟩) (by exact hHeld) ?_
                    rotate_left
                    · (intro w hSw; (try dsimp only at hSw); go_simp; try (with_reducible rfl))
                    simp only [Act.put, List.setIfInBounds_toArray, List.set_cons_zero, List.set_cons_succ]
                    refine wpAnyH_take (i := 3) (oi := ⟨some 64, _, _, _, _, _⟩) (v := ?_) rfl (by kernel_rfl) (by kernel_rfl) (by kernel_rfl) (fun _ _ _ h => h) (Or.inl ⟨by rfl, ?_⟩) (by exact hHeld) ?_
                    rotate_left
                    · (intro w hSw; (try dsimp only at hSw); go_simp; try (with_reducible rfl))
                    simp only [Act.put, List.setIfInBounds_toArray, List.set_cons_zero, List.set_cons_succ]
                    refine wpAnyH_take (i := 5) (oi := ⟨some 66, _, _, _, _, _⟩) (v := ?_) rfl (by kernel_rfl) (by kernel_rfl) (by kernel_rfl) (fun _ _ _ h => h) (Or.inl ⟨by rfl, ?_⟩) (by exact hHeld) ?_
                    rotate_left
                    · (intro w hSw; (try dsimp only at hSw); go_simp; try (with_reducible rfl))
                    simp only [Act.put, List.setIfInBounds_toArray, List.set_cons_zero, List.set_cons_succ]
                    refine wpAnyH_take (i := 8) (oi := ⟨some 69, _, _, _, _, _⟩) (v := ?_) rfl (by kernel_rfl) (by kernel_rfl) (by kernel_rfl) (fun _ _ _ h => h) (Or.inl ⟨by rfl, ?_⟩) (by exact hHeld) ?_
                    rotate_left
                    · (intro w hSw; (try dsimp only at hSw); go_simp; try (with_reducible rfl))
                    simp only [Act.put, List.setIfInBounds_toArray, List.set_cons_zero, List.set_cons_succ]
                    refine wpAnyH_take (i := 9) (oi := ⟨some 70, _, _, _, _, _⟩) (v := ?_) rfl (by kernel_rfl) (by kernel_rfl) (by kernel_rfl) (fun _ _ _ h => h) (Or.inl ⟨by rfl, ?_⟩) (by exact hHeld) ?_
                    rotate_left
                    · (intro w hSw; (try dsimp only at hSw); go_simp; try (with_reducible rfl))
                    simp only [Act.put, List.setIfInBounds_toArray, List.set_cons_zero, List.set_cons_succ]
                    refine wpAnyH_take (i := 10) (oi := ⟨some 71, _, _, _, _, _⟩) (v := ?_) rfl (by kernel_rfl) (by kernel_rfl) (by kernel_rfl) (fun _ _ _ h => h) (Or.inl ⟨by rfl, ?_⟩) (by exact hHeld) ?_
                    rotate_left
                    · (intro w hSw; (try dsimp only at hSw); go_simp; try (with_reducible rfl))
                    simp only [Act.put, List.setIfInBounds_toArray, List.set_cons_zero, List.set_cons_succ]
                    refine wpAnyH_ready (rs := [0, 6]) (by kernel_rfl) (by simp) ?_
                    refine AllReadyH.cons (o := ⟨some 61, _, _, _, _, _⟩) rfl (fun K hK => ?_) ?_
                    · refine stepv_slice0 22 34 rfl rfl run_fms0 (fun g4 w3 h4 hb3 hg4 => ?_)
                      have hg4b : ws.heap.size ≤ g4 := Nat.le_trans hB.size hg4
                      try have hne : g8 ≠ g4 := by have := h8.lt; omega
                      try have h8 := h8.step hb3 rfl
                      have hB := hB.trans (hb3.mono hB.size)
                      clear hb3 hg4
                      try dsimp only
                      refine hK.out _ _ ?_ (fun hHeld => ?_)
                      · trivial
                      clear hK K
                      try simp only [Act.put, List.setIfInBounds_toArray, List.set_cons_zero, List.set_cons_succ]
                      refine wpAnyH_ready (rs := [4, 6]) (by kernel_rfl) (by simp) ?_
                      refine AllReadyH.cons (o := ⟨some 65, _, _, _, _, _⟩) rfl (fun K hK => ?_) ?_
                      · refine stepv_append rfl _ _ 22 rfl _ _ rfl rfl (append_vals (E := 34) Try.underlying22 hi0 hz0 hz1 hz2 rfl (by decide) _ ws.heap.size _ [] (us.take k) (some ⟨b6, o6, none⟩) k _ _ (VRow.empty h4 hg4b) hB.size ((HVs.out.next hB).take k (by omega)) (fun u hu => HF4.out.2.1 u (List.mem_of_mem_take hu)) (by simp <;> omega)) ?_
                        rintro v6 w3 ⟨h6, hgr⟩
                        try have h8 := at_keep h8 hgr (fun q => hne (by injection q with q; exact q.symm))
                        have hB := below_gr hB hB.size hgr (fun q hq => by have e : g4 = q := Option.some.inj hq; omega)
                        clear hgr h4 hg4b
                        try clear hne
                        rw [List.nil_append] at h6
                        refine hK.out _ _ ?_ (fun hHeld => ?_)
                        · trivial
                        clear hK K
                        try simp only [Act.put, List.setIfInBounds_toArray, List.set_cons_zero, List.set_cons_succ]
                        refine wpAnyH_ready (rs := [6]) (by kernel_rfl) (by simp) ?_
                        refine AllReadyH.cons (o := ⟨some 67, _, _, _, _, _⟩) rfl (fun K hK => ?_) AllReadyH.nil
                        refine stepv_slice1 22 34 rfl _ (.slice Ap p.length cp) rfl rfl (run_fms1 _ _ _) (fun g8 w3 h8 hb3 hg8 => ?_)
                        try have hne : g8 ≠ g4 := by have := h4.lt; omega
                        try have h4 := h4.step hb3 rfl
                        try have h6 := h6.next hb3
                        have hB := hB.trans (hb3.mono hB.size)
                        clear hb3 hg8
                        try dsimp only
                        refine hK.out _ _ ?_ (fun hHeld => ?_)
                        · trivial
                        clear hK K
                        try simp only [Act.put, List.setIfInBounds_toArray, List.set_cons_zero, List.set_cons_succ]
                        refine wpAnyH_ready (rs := [7]) (by kernel_rfl) (by simp) ?_
                        refine AllReadyH.cons (o := ⟨some 68, _, _, _, _, _⟩) rfl (fun K hK => ?_) AllReadyH.nil
                        refine stepv_append rfl _ _ 22 rfl _ _ rfl rfl (append_vals (E := 34) Try.underlying22 hi0 hz0 hz1 hz2 rfl (by decide) _ ws.heap.size v6 _ [(.slice Ap p.length cp)] (some ⟨g8, 0, none⟩) 1 1 _ h6 hB.size (one_vals h8) (fun u hu => by rw [List.mem_singleton.1 hu]; rfl) (by simp <;> omega)) ?_
                        rintro v7 w3 ⟨h7, hgr⟩
                        have hrow := h6.low
                        have hB := below_gr hB hB.size hgr hrow
                        clear hgr h6 h8 hrow
                        refine hK.out _ _ ?_ (fun hHeld => ?_)
                        · trivial
                        clear hK K
                        try simp only [Act.put, List.setIfInBounds_toArray, List.set_cons_zero, List.set_cons_succ]
                        refine wpAnyH_ready (rs := [11]) (by kernel_rfl) (by simp) ?_
                        refine AllReadyH.cons (o := ⟨some 72, _, _, _, _, _⟩) rfl (fun K hK => ?_) AllReadyH.nil
                        refine stepv_append rfl _ _ 22 rfl _ _ rfl rfl (append_vals (E := 34) Try.underlying22 hi0 hz0 hz1 hz2 rfl (by decide) _ ws.heap.size v7 _ (us.drop k) (some ⟨b6, o6 + k, none⟩) _ _ _ h7 hB.size ((HVs.out.next hB).drop rfl k (cu - k) (by omega) rfl) (fun u hu => HF4.out.2.1 u (List.mem_of_mem_drop hu)) (by simp <;> omega)) ?_
                        rintro v9 w3 ⟨h9, hgr⟩
                        have hrow := h7.low
                        have hB := below_gr hB hB.size hgr hrow
                        clear hgr h7 hrow
                        refine hK.out _ _ ?_ (fun hHeld => ?_)
                        · trivial
                        clear hK K
                        try simp only [Act.put, List.setIfInBounds_toArray, List.set_cons_zero, List.set_cons_succ]
                        refine wpAnyH_take (i := 12) (oi := ⟨some 5, _, _, _, _, _⟩) (v := ?_) rfl (by kernel_rfl) (by kernel_rfl) (by kernel_rfl) (fun _ _ _ h => h) (Or.inl ⟨by rfl, ?_⟩) (by exact hHeld) ?_
                        rotate_left
                        · (intro w hSw; (try dsimp only at hSw); go_simp; try (with_reducible rfl))
                        simp only [Act.put, List.setIfInBounds_toArray, List.set_cons_zero, List.set_cons_succ]
                        refine wpAnyH_done (by kernel_rfl) ?_ _
                        refine NoPanic.normal ?_
                        have HBe := Lib.hid (HBs.out.trans (hB.mono HBs.out.size))
                        have HFe := Lib.hid (FmVals.ins (HFs.out.next hB) (u := (.slice Ap p.length cp)) rfl (HPs.out.next hB) k (by first | omega | simp))
                        have HVe := Lib.hid h9.vals
                        clear hB h9 hHeld
                        go_wp2_with fail
                        go_roundw
                        case rel => exact ⟨j + 1, us.take k ++ [(.slice Ap p.length cp)] ++ us.drop k, by omega, by go_num, HVe, Lib.hid (fun e => by simp at e), by rw [HNx.out, HIns.out]; exact HFe, HBe⟩
                        case measure => simp [intOf]; omega
                      refine AllReadyH.cons (o := ⟨some 67, _, _, _, _, _⟩) rfl (fun K hK => ?_) AllReadyH.nil
                      · refine stepv_slice1 22 34 rfl _ (.slice Ap p.length cp) rfl rfl (run_fms1 _ _ _) (fun g8 w3 h8 hb3 hg8 => ?_)
                        try have hne : g8 ≠ g4 := by have := h4.lt; omega
                        try have h4 := h4.step hb3 rfl
                        try have h6 := h6.next hb3
                        have hB := hB.trans (hb3.mono hB.size)
                        clear hb3 hg8
                        try dsimp only
                        refine hK.out _ _ ?_ (fun hHeld => ?_)
                        · trivial
                        clear hK K
                        try simp only [Act.put, List.setIfInBounds_toArray, List.set_cons_zero, List.set_cons_succ]
                        refine wpAnyH_ready (rs := [4]) (by kernel_rfl) (by simp) ?_
                        refine AllReadyH.cons (o := ⟨some 65, _, _, _, _, _⟩) rfl (fun K hK => ?_) AllReadyH.nil
                        refine stepv_append rfl _ _ 22 rfl _ _ rfl rfl (append_vals (E := 34) Try.underlying22 hi0 hz0 hz1 hz2 rfl (by decide) _ ws.heap.size _ [] (us.take k) (some ⟨b6, o6, none⟩) k _ _ (VRow.empty h4 hg4b) hB.size ((HVs.out.next hB).take k (by omega)) (fun u hu => HF4.out.2.1 u (List.mem_of_mem_take hu)) (by simp <;> omega)) ?_
                        rintro v6 w3 ⟨h6, hgr⟩
                        try have h8 := at_keep h8 hgr (fun q => hne (by injection q with q; exact q.symm))
                        have hB := below_gr hB hB.size hgr (fun q hq => by have e : g4 = q := Option.some.inj hq; omega)
                        clear hgr h4 hg4b
                        try clear hne
                        rw [List.nil_append] at h6
                        refine hK.out _ _ ?_ (fun hHeld => ?_)
                        · trivial
                        clear hK K
                        try simp only [Act.put, List.setIfInBounds_toArray, List.set_cons_zero, List.set_cons_succ]
                        refine wpAnyH_ready (rs := [7]) (by kernel_rfl) (by simp) ?_
                        refine AllReadyH.cons (o := ⟨some 68, _, _, _, _, _⟩) rfl (fun K hK => ?_) AllReadyH.nil
                        refine stepv_append rfl _ _ 22 rfl _ _ rfl rfl (append_vals (E := 34) Try.underlying22 hi0 hz0 hz1 hz2 rfl (by decide) _ ws.heap.size v6 _ [(.slice Ap p.length cp)] (some ⟨g8, 0, none⟩) 1 1 _ h6 hB.size (one_vals h8) (fun u hu => by rw [List.mem_singleton.1 hu]; rfl) (by simp <;> omega)) ?_
                        rintro v7 w3 ⟨h7, hgr⟩
                        have hrow := h6.low
                        have hB := below_gr hB hB.size hgr hrow
                        clear hgr h6 h8 hrow
                        refine hK.out _ _ ?_ (fun hHeld => ?_)
                        · trivial
                        clear hK K
                        try simp only [Act.put, List.setIfInBounds_toArray, List.set_cons_zero, List.set_cons_succ]
                        refine wpAnyH_ready (rs := [11]) (by kernel_rfl) (by simp) ?_
                        refine AllReadyH.cons (o := ⟨some 72, _, _, _, _, _⟩) rfl (fun K hK => ?_) AllReadyH.nil
                        refine stepv_append rfl _ _ 22 rfl _ _ rfl rfl (append_vals (E := 34) Try.underlying22 hi0 hz0 hz1 hz2 rfl (by decide) _ ws.heap.size v7 _ (us.drop k) (some ⟨b6, o6 + k, none⟩) _ _ _ h7 hB.size ((HVs.out.next hB).drop rfl k (cu - k) (by omega) rfl) (fun u hu => HF4.out.2.1 u (List.mem_of_mem_drop hu)) (by simp <;> omega)) ?_
                        rintro v9 w3 ⟨h9, hgr⟩
                        have hrow := h7.low
                        have hB := below_gr hB hB.size hgr hrow
                        clear hgr h7 hrow
                        refine hK.out _ _ ?_ (fun hHeld => ?_)
                        · trivial
                        clear hK K
                        try simp only [Act.put, List.setIfInBounds_toArray, List.set_cons_zero, List.set_cons_succ]
                        refine wpAnyH_take (i := 12) (oi := ⟨some 5, _, _, _, _, _⟩) (v := ?_) rfl (by kernel_rfl) (by kernel_rfl) (by kernel_rfl) (fun _ _ _ h => h) (Or.inl ⟨by rfl, ?_⟩) (by exact hHeld) ?_
                        rotate_left
                        · (intro w hSw; (try dsimp only at hSw); go_simp; try (with_reducible rfl))
                        simp only [Act.put, List.setIfInBounds_toArray, List.set_cons_zero, List.set_cons_succ]
                        refine wpAnyH_done (by kernel_rfl) ?_ _
                        refine NoPanic.normal ?_
                        have HBe := Lib.hid (HBs.out.trans (hB.mono HBs.out.size))
                        have HFe := Lib.hid (FmVals.ins (HFs.out.next hB) (u := (.slice Ap p.length cp)) rfl (HPs.out.next hB) k (by first | omega | simp))
                        have HVe := Lib.hid h9.vals
                        clear hB h9 hHeld
                        go_wp2_with fail
                        go_roundw
                        case rel => exact ⟨j + 1, us.take k ++ [(.slice Ap p.length cp)] ++ us.drop k, by omega, by go_num, HVe, Lib.hid (fun e => by simp at e), by rw [HNx.out, HIns.out]; exact HFe, HBe⟩
                        case measure => simp [intOf]; omega
                    refine AllReadyH.cons (o := ⟨some 67, _, _, _, _, _⟩) rfl (fun K hK => ?_) AllReadyH.nil
                    · refine stepv_slice1 22 34 rfl _ (.slice Ap p.length cp) rfl rfl (run_fms1 _ _ _) (fun g8 w3 h8 hb3 hg8 => ?_)
                      try have hne : g8 ≠ g4 := by have := h4.lt; omega
                      try have h4 := h4.step hb3 rfl
                      try have h6 := h6.next hb3
                      have hB := hB.trans (hb3.mono hB.size)
                      clear hb3 hg8
                      try dsimp only
                      refine hK.out _ _ ?_ (fun hHeld => ?_)
                      · trivial
                      clear hK K
                      try simp only [Act.put, List.setIfInBounds_toArray, List.set_cons_zero, List.set_cons_succ]
                      refine wpAnyH_ready (rs := [0]) (by kernel_rfl) (by simp) ?_
                      refine AllReadyH.cons (o := ⟨some 61, _, _, _, _, _⟩) rfl (fun K hK => ?_) AllReadyH.nil
                      refine stepv_slice0 22 34 rfl rfl run_fms0 (fun g4 w3 h4 hb3 hg4 => ?_)
                      have hg4b : ws.heap.size ≤ g4 := Nat.le_trans hB.size hg4
                      try have hne : g8 ≠ g4 := by have := h8.lt; omega
                      try have h8 := h8.step hb3 rfl
                      have hB := hB.trans (hb3.mono hB.size)
                      clear hb3 hg4
                      try dsimp only
                      refine hK.out _ _ ?_ (fun hHeld => ?_)
                      · trivial
                      clear hK K
                      try simp only [Act.put, List.setIfInBounds_toArray, List.set_cons_zero, List.set_cons_succ]
                      refine wpAnyH_ready (rs := [4]) (by kernel_rfl) (by simp) ?_
                      refine AllReadyH.cons (o := ⟨some 65, _, _, _, _, _⟩) rfl (fun K hK => ?_) AllReadyH.nil
                      refine stepv_append rfl _ _ 22 rfl _ _ rfl rfl (append_vals (E := 34) Try.underlying22 hi0 hz0 hz1 hz2 rfl (by decide) _ ws.heap.size _ [] (us.take k) (some ⟨b6, o6, none⟩) k _ _ (VRow.empty h4 hg4b) hB.size ((HVs.out.next hB).take k (by omega)) (fun u hu => HF4.out.2.1 u (List.mem_of_mem_take hu)) (by simp <;> omega)) ?_
                      rintro v6 w3 ⟨h6, hgr⟩
                      try have h8 := at_keep h8 hgr (fun q => hne (by injection q with q; exact q.symm))
                      have hB := below_gr hB hB.size hgr (fun q hq => by have e : g4 = q := Option.some.inj hq; omega)
                      clear hgr h4 hg4b
                      try clear hne
                      rw [List.nil_append] at h6
                      refine hK.out _ _ ?_ (fun hHeld => ?_)
                      · trivial
                      clear hK K
                      try simp only [Act.put, List.setIfInBounds_toArray, List.set_cons_zero, List.set_cons_succ]
                      refine wpAnyH_ready (rs := [7]) (by kernel_rfl) (by simp) ?_
                      refine AllReadyH.cons (o := ⟨some 68, _, _, _, _, _⟩) rfl (fun K hK => ?_) AllReadyH.nil
                      refine stepv_append rfl _ _ 22 rfl _ _ rfl rfl (append_vals (E := 34) Try.underlying22 hi0 hz0 hz1 hz2 rfl (by decide) _ ws.heap.size v6 _ [(.slice Ap p.length cp)] (some ⟨g8, 0, none⟩) 1 1 _ h6 hB.size (one_vals h8) (fun u hu => by rw [List.mem_singleton.1 hu]; rfl) (by simp <;> omega)) ?_
                      rintro v7 w3 ⟨h7, hgr⟩
                      have hrow := h6.low
                      have hB := below_gr hB hB.size hgr hrow
                      clear hgr h6 h8 hrow
                      refine hK.out _ _ ?_ (fun hHeld => ?_)
                      · trivial
                      clear hK K
                      try simp only [Act.put, List.setIfInBounds_toArray, List.set_cons_zero, List.set_cons_succ]
                      refine wpAnyH_ready (rs := [11]) (by kernel_rfl) (by simp) ?_
                      refine AllReadyH.cons (o := ⟨some 72, _, _, _, _, _⟩) rfl (fun K hK => ?_) AllReadyH.nil
                      refine stepv_append rfl _ _ 22 rfl _ _ rfl rfl (append_vals (E := 34) Try.underlying22 hi0 hz0 hz1 hz2 rfl (by decide) _ ws.heap.size v7 _ (us.drop k) (some ⟨b6, o6 + k, none⟩) _ _ _ h7 hB.size ((HVs.out.next hB).drop rfl k (cu - k) (by omega) rfl) (fun u hu => HF4.out.2.1 u (List.mem_of_mem_drop hu)) (by simp <;> omega)) ?_
                      rintro v9 w3 ⟨h9, hgr⟩
                      have hrow := h7.low
                      have hB := below_gr hB hB.size hgr hrow
                      clear hgr h7 hrow
                      refine hK.out _ _ ?_ (fun hHeld => ?_)
                      · trivial
                      clear hK K
                      try simp only [Act.put, List.setIfInBounds_toArray, List.set_cons_zero, List.set_cons_succ]
                      refine wpAnyH_take (i := 12) (oi := ⟨some 5, _, _, _, _, _⟩) (v := ?_) rfl (by kernel_rfl) (by kernel_rfl) (by kernel_rfl) (fun _ _ _ h => h) (Or.inl ⟨by rfl, ?_⟩) (by exact hHeld) ?_
                      rotate_left
                      · (intro w hSw; (try dsimp only at hSw); go_simp; try (with_reducible rfl))
                      simp only [Act.put, List.setIfInBounds_toArray, List.set_cons_zero, List.set_cons_succ]
                      refine wpAnyH_done (by kernel_rfl) ?_ _
                      refine NoPanic.normal ?_
                      have HBe := Lib.hid (HBs.out.trans (hB.mono HBs.out.size))
                      have HFe := Lib.hid (FmVals.ins (HFs.out.next hB) (u := (.slice Ap p.length cp)) rfl (HPs.out.next hB) k (by first | omega | simp))
                      have HVe := Lib.hid h9.vals
                      clear hB h9 hHeld
                      go_wp2_with fail
                      go_roundw
                      case rel => exact ⟨j + 1, us.take k ++ [(.slice Ap p.length cp)] ++ us.drop k, by omega, by go_num, HVe, Lib.hid (fun e => by simp at e), by rw [HNx.out, HIns.out]; exact HFe, HBe⟩
                      case measure => simp [intOf]; omega
    · obtain rfl : j = N := by omega
      go_wp2_with fail
      go_ret
      exact ⟨u5, rfl, vals_fm HV.out HF.out, HB.out⟩

end Go.Proofs.Ytehokjaojanieaa
