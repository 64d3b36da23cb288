/- package formula: Same and awake (a Door seat). -/
import Derived.Test.YtehokjaojanieaaDoorFmFew
import Derived.Test.YtehokjaojanieaaDoorFoKLay
import Derived.Laws.EntriesVeiled
namespace Go.Proofs.YtehokjaojanieaaDoor
open Go.RowKit
set_option linter.unusedVariables false
set_option linter.unusedSimpArgs false

theorem ints_getD {w : World} {b off n c : Nat} {l : List Int} (h : IntsAt w (.slice (some ⟨b, off, none⟩) n c) l) : ∀ j, j < l.length → w.cell? ⟨b, off + j, none⟩ = some (.int .i64 (l.getD j 0)) := fun j hj => by
  obtain ⟨b', off', e, _, r⟩ := h.at j hj
  injection e with e
  injection e with e1 e2
  subst e1 e2
  rw [r]; unfold inAt; rw [List.getD_eq_getElem?_getD]
theorem ints_none {w : World} {n c : Nat} {l : List Int} (h : IntsAt w (.slice none n c) l) : l = [] ∧ n = 0 := by
  obtain rfl := h.len
  by_cases h0 : 0 < l.length
  · obtain ⟨b, off, e, _⟩ := h.at 0 h0; cases e
  · exact ⟨List.eq_nil_of_length_eq_zero (by omega), by omega⟩
theorem ints_some {w : World} {a : Addr} {n c : Nat} {l : List Int} (h : IntsAt w (.slice (some a) n c) l) (h0 : 0 < l.length) : ∃ b off, a = ⟨b, off, none⟩ := by
  obtain ⟨b, off, e, _⟩ := h.at 0 h0
  injection e with e
  exact ⟨b, off, e⟩

theorem fEqual (a b : List Int) (A B : Option Addr) (n c m d : Nat) (w : World) (h : IntsAt w (.slice A n c) a) (h' : IntsAt w (.slice B m d) b) :
    Calls Tryd.prog 16 #[.slice A n c, .slice B m d] w fun e w' => e = .returned (.bool (a == b)) ∧ ∃ q, w' = w.drewN q := by
  have hm := h.max
  have hm' := h'.max
  obtain rfl := h.len
  obtain rfl := h'.len
  by_cases hl : a.length = b.length
  · by_cases h0 : 0 < a.length
    · cases A with
      | none => obtain ⟨rfl, _⟩ := ints_none h; exact absurd h0 (Nat.lt_irrefl _)
      | some x =>
        obtain ⟨b1, o1, rfl⟩ := ints_some h h0
        cases B with
        | none => obtain ⟨rfl, _⟩ := ints_none h'; rw [hl] at h0; exact absurd h0 (Nat.lt_irrefl _)
        | some y =>
          obtain ⟨b2, o2, rfl⟩ := ints_some h' (by omega)
          have := lib_slices_Equal_int b1 o1 a.length c b2 o2 b.length d a b w (Nat.le_refl _) (Nat.le_refl _) hm hm' (ints_getD h) (ints_getD h')
          rwa [List.take_length, List.take_length] at this
    · obtain rfl : a = [] := List.eq_nil_of_length_eq_zero (by omega)
      obtain rfl : b = [] := List.eq_nil_of_length_eq_zero (by rw [← hl]; rfl)
      refine (lib_slices_Equal_int_empty A B c 0 d w (by omega)).mono ?_
      rintro e w' ⟨rfl, rfl⟩
      exact ⟨rfl, 0, rfl⟩
  · refine (lib_slices_Equal_int_lens A B a.length c b.length d w hl).mono ?_
    rintro e w' ⟨rfl, rfl⟩
    refine ⟨?_, 0, rfl⟩
    rw [show (a == b) = false from beq_eq_false_iff_ne.2 (fun e => hl (by rw [e]))]
set_option maxRecDepth 100000 in
set_option maxHeartbeats 4000000 in
theorem fSame {w : World} {A B : Option Addr} {n c m d : Nat} {f g : Fm} (hf : FmAt w (.slice A n c) f) (hg : FmAt w (.slice B m d) g) :
    Calls Tryd.prog 7 #[.slice A n c, .slice B m d] w fun e w' => e = .returned (.bool (decide (f = g))) ∧ Below w.heap.size w w' := by
  have HF := Lib.hid hf
  have HG := Lib.hid hg
  have hm := hf.max
  have hm' := hg.max
  obtain rfl := hf.len
  obtain rfl := hg.len
  have eg : ∀ args w, (callFunc 16 args).run Tryd.prog w = .ok (.enter 16 args) w := enters_of Tryd.func16 (by kernel_rfl) rfl
  clear hf hg
  have hE : Calls Tryd.prog 15 #[.slice A f.length c, .slice B g.length d, .func (.func 16) #[] #[]] w fun e w' => e = .returned (.bool (decide (f = g))) ∧ ∃ q, w' = w.drewN q := by
    go_enter Tryd.func15, Tryd.ntmps15
    by_cases hl : f.length = g.length
    · have h1 : ((f.length : Int) != (g.length : Int)) = false := by simp [hl]
      have HL := Lib.hid hl
      clear hl
      go_wp2_with fail
      go_loopw [17] (fun v wr => ∃ i q : Nat, i ≤ f.length ∧ v = .int .i64 i ∧ wr = w.drewN q ∧ Hid (f.take i = g.take i)) (fun v _ => f.length - (intOf v).toNat)
      case atStart => exact ⟨0, 0, Nat.zero_le _, rfl, rfl, Lib.hid (by simp)⟩
      case round =>
        obtain ⟨i, q, hi, rfl, rfl, HN⟩ := hrel
        by_cases hlt : i < f.length
        · have h1 : (0 : Int) ≤ (i : Int) := by omega
          have h2 : (i : Int) < (f.length : Int) := by omega
          have hlg : i < g.length := by have := HL.out; omega
          have h3 : (i : Int) < (g.length : Int) := by omega
          obtain ⟨b, off, A2, c2, rfl, _, q1, hp⟩ := HF.out.at i hlt
          obtain ⟨b', off', B2, d2, rfl, _, q2, hq⟩ := HG.out.at i hlg
          obtain ⟨r, hr⟩ : ∃ r, (paAt f i == paAt g i) = r := ⟨_, rfl⟩
          have hE := fEqual (paAt f i) (paAt g i) A2 B2 _ c2 _ d2 (w.drewN q) (hp.drewN q) (hq.drewN q)
          rw [hr] at hE
          have HE := Lib.hid hE
          have HR := Lib.hid hr
          have q1' : (w.drewN q).cell? ⟨b, off + i, none⟩ = some (.slice A2 (paAt f i).length c2) := q1
          have q2' : (w.drewN q).cell? ⟨b', off' + i, none⟩ = some (.slice B2 (paAt g i).length d2) := q2
          clear hE hr hp hq
          cases r
          · go_wp2_with fail
            refine HE.out.mono ?_
            rintro e w3 ⟨rfl, q', rfl⟩
            go_wp2_with fail
            go_ret
            refine ⟨?_, q + q', by first | rfl | rw [World.drewN_drewN]⟩
            rw [decide_eq_false (ne_at (fun e => by have := HR.out; rw [e] at this; simp at this))]; rfl
          · go_wp2_with fail
            refine HE.out.mono ?_
            rintro e w3 ⟨rfl, q', rfl⟩
            go_wp2_with fail
            refine ⟨⟨i + 1, q + q', by omega, by go_num, by first | rfl | rw [World.drewN_drewN], Lib.hid ?_⟩, by simp [intOf]; omega⟩
            rw [take_step f i hlt, take_step g i hlg, HN.out]
            have h5 : paAt f i = paAt g i := by simpa using HR.out
            rw [paAt_lt hlt, paAt_lt hlg] at h5
            rw [h5]
        · obtain rfl : i = f.length := by omega
          go_wp2_with fail
          go_ret
          refine ⟨?_, q, rfl⟩
          have h5 := HN.out
          rw [List.take_length, HL.out, List.take_length] at h5
          rw [decide_eq_true h5]; rfl
    · have h1 : ((f.length : Int) != (g.length : Int)) = true := by simp; omega
      have HE : Hid (decide (f = g) = false) := Lib.hid (decide_eq_false (fun e => hl (by rw [e])))
      clear hl
      go_wp2_with fail
      go_ret
      exact ⟨by rw [HE.out]; rfl, 0, rfl⟩
  have HE := Lib.hid hE
  clear hE
  go_enter Tryd.func7, Tryd.ntmps7
  go_wp2_with fail
  refine HE.out.mono ?_
  rintro e w3 ⟨rfl, q, rfl⟩
  go_wp2_with fail
  go_ret
  exact ⟨rfl, below_dn (Below.refl _ _) q⟩

set_option maxRecDepth 100000 in
set_option maxHeartbeats 4000000 in
/-- The first part of which p holds, or -1. -/
theorem fIndexH (f : Fm) (p : List Int → Bool) (bx : Value) (A : Option Addr) (n c : Nat) (w : World) (h : FmAt w (.slice A n c) f)
    (hcall : ∀ w', Below w.heap.size w w' → ∀ l A n c, IntsAt w' (.slice A n c) l → l ∈ f → Calls Tryd.prog 22 #[.slice A n c, bx] w' fun e w'' => e = .returned (.bool (p l)) ∧ Below w'.heap.size w' w'') :
    Calls Tryd.prog 26 #[.slice A n c, .func (.func 22) #[] #[bx]] w fun e w' =>
      ∃ r : Int, e = .returned (.int .i64 r) ∧ ((r = -1 ∧ ∀ l ∈ f, p l = false) ∨ ∃ k : Nat, k < f.length ∧ r = k ∧ p (paAt f k) = true ∧ ∀ j, j < k → p (paAt f j) = false) ∧ Below w.heap.size w w' := by
  have HI := Lib.hid h
  have hm := h.max
  obtain rfl := h.len
  have HC := Lib.hid hcall
  have eg : ∀ args w, (callFunc 22 args).run Tryd.prog w = .ok (.enter 22 args) w := enters_of Tryd.func22 (by kernel_rfl) rfl
  clear h hcall
  go_enter Tryd.func26, Tryd.ntmps26
  go_wp2_with fail
  go_loopw [8] (fun v wr => ∃ i : Nat, i ≤ f.length ∧ v = .int .i64 i ∧ Hid (Below w.heap.size w wr) ∧ Hid (∀ j, j < i → p (paAt f j) = false)) (fun v _ => f.length - (intOf v).toNat)
  case atStart => exact ⟨0, Nat.zero_le _, rfl, Lib.hid (Below.refl _ _), Lib.hid (fun j hj => absurd hj (Nat.not_lt_zero _))⟩
  case round =>
    obtain ⟨i, hi, rfl, HB, HN⟩ := hrel
    by_cases hlt : i < f.length
    · have h1 : (0 : Int) ≤ (i : Int) := by omega
      have h2 : (i : Int) < (f.length : Int) := by omega
      obtain ⟨b, off, A2, c2, rfl, _, q1, hp⟩ := (HI.out.next HB.out).at i hlt
      have hcl := HC.out wr HB.out (paAt f i) A2 _ c2 hp (by rw [paAt_lt hlt]; exact List.getElem_mem hlt)
      obtain ⟨r, hr⟩ : ∃ r, p (paAt f i) = r := ⟨_, rfl⟩
      rw [hr] at hcl
      have HCl := Lib.hid hcl
      have HR := Lib.hid hr
      clear hcl hr hp
      cases r
      · go_wp2_with fail
        refine HCl.out.mono ?_
        rintro e w3 ⟨rfl, hb3⟩
        have HB3 := Lib.hid (HB.out.trans (hb3.mono HB.out.size))
        clear hb3
        go_wp2_with fail
        refine ⟨⟨i + 1, by omega, by go_num, HB3, Lib.hid (fun j hj => ?_)⟩, by simp [intOf]; omega⟩
        by_cases e : j = i
        · rw [e]; exact HR.out
        · exact HN.out j (by omega)
      · go_wp2_with fail
        refine HCl.out.mono ?_
        rintro e w3 ⟨rfl, hb3⟩
        have HB3 := Lib.hid (HB.out.trans (hb3.mono HB.out.size))
        clear hb3
        go_wp2_with fail
        go_ret
        exact ⟨_, rfl, .inr ⟨i, hlt, rfl, HR.out, HN.out⟩, HB3.out⟩
    · obtain rfl : i = f.length := by omega
      go_wp2_with fail
      go_ret
      refine ⟨_, rfl, .inl ⟨rfl, fun l hl => ?_⟩, HB.out⟩
      obtain ⟨j, hj, rfl⟩ := List.mem_iff_getElem.1 hl
      have := HN.out j hj
      rwa [paAt_lt hj] at this

set_option maxRecDepth 100000 in
set_option maxHeartbeats 4000000 in
theorem fIdxNil (A : Option Addr) (c : Nat) (fv : Value) (w : World) : Calls Tryd.prog 27 #[.slice A 0 c, fv] w fun e w' => e = .returned (.int .i64 (-1)) ∧ w' = w := by
  go_enter Tryd.func27, Tryd.ntmps27
  go_wp2_with fail
  go_loopw [8] (fun v wr => v = .int .i64 0 ∧ w = wr) (fun _ _ => 0)
  case atStart => exact ⟨rfl, rfl⟩
  case round =>
    obtain ⟨rfl, rfl⟩ := hrel
    go_wp2_with fail
    go_ret
    exact ⟨rfl, rfl⟩
set_option maxRecDepth 100000 in
set_option maxHeartbeats 4000000 in
theorem fContNil (A : Option Addr) (c : Nat) (fv : Value) (w : World) : Calls Tryd.prog 23 #[.slice A 0 c, fv] w fun e w' => e = .returned (.bool false) ∧ w' = w := by
  go_enter Tryd.func23, Tryd.ntmps23
  go_wp2_with fail
  refine (fIdxNil A c fv w).mono ?_
  rintro e w1 ⟨rfl, rfl⟩
  go_wp2_with fail
  go_ret
  exact ⟨rfl, rfl⟩
set_option maxRecDepth 100000 in
set_option maxHeartbeats 4000000 in
theorem fHolds2Nil (A : Option Addr) (c b : Nat) (fv : Value) (w : World) (hb : w.cell? ⟨b, 0, none⟩ = some fv) : Calls Tryd.prog 22 #[.slice A 0 c, .pointer (some ⟨b, 0, none⟩)] w fun e w' => e = .returned (.bool true) ∧ w' = w := by
  go_enter Tryd.func22, Tryd.ntmps22
  go_wp2_with fail
  refine (fContNil A c fv w).mono ?_
  rintro e w1 ⟨rfl, rfl⟩
  go_wp2_with fail
  go_ret
  exact ⟨rfl, rfl⟩
set_option maxRecDepth 100000 in
set_option maxHeartbeats 4000000 in
theorem fContH (f : Fm) (p : List Int → Bool) (bx : Value) (A : Option Addr) (n c : Nat) (w : World) (h : FmAt w (.slice A n c) f)
    (hcall : ∀ w', Below w.heap.size w w' → ∀ l A n c, IntsAt w' (.slice A n c) l → l ∈ f → Calls Tryd.prog 22 #[.slice A n c, bx] w' fun e w'' => e = .returned (.bool (p l)) ∧ Below w'.heap.size w' w'') :
    Calls Tryd.prog 21 #[.slice A n c, .func (.func 22) #[] #[bx]] w fun e w' => e = .returned (.bool (f.any p)) ∧ Below w.heap.size w w' := by
  have HI := Lib.hid (fIndexH f p bx A n c w h hcall)
  clear h hcall
  go_enter Tryd.func21, Tryd.ntmps21
  go_wp2_with fail
  refine HI.out.mono ?_
  rintro e w1 ⟨r, rfl, hr, hb⟩
  have HB := Lib.hid hb
  clear hb
  rcases hr with ⟨rfl, h0⟩ | ⟨k, hk, rfl, h1, _⟩
  · have HE : Hid (f.any p = false) := Lib.hid (by rw [List.any_eq_false]; intro l hl; rw [h0 l hl]; simp)
    clear h0
    go_wp2_with fail
    go_ret
    exact ⟨by rw [HE.out]; rfl, HB.out⟩
  · have HE : Hid (f.any p = true) := Lib.hid (by rw [List.any_eq_true]; exact ⟨_, List.getElem_mem hk, by rw [← paAt_lt hk]; exact h1⟩)
    have h2 : (k : Int) ≥ 0 := by omega
    clear h1
    go_wp2_with fail
    go_ret
    exact ⟨by rw [HE.out]; rfl, HB.out⟩

theorem run_make_on (w : World) : (Instr.makeMap 39 (some (.int .i64 0))).run Tryd.prog w = .ok (.map (some w.heap.size)) (w.alloc (.map #[] 0)) := by
  simp [Instr.makeMap, run_underlying Tryd.underlying39]
  rfl

set_option maxRecDepth 100000 in
set_option maxHeartbeats 8000000 in
theorem fHoldsNil (f : Fm) (A : Option Addr) (n c : Nat) (w : World) (h : FmAt w (.slice A n c) f) (h0 : ∀ p ∈ f, p = []) :
    Calls Tryd.prog 10 #[.slice A n c, .slice none 0 0] w fun e w' => e = .returned (.bool (decide (0 < f.length))) ∧ Below w.heap.size w w' := by
  have HF := Lib.hid h
  have H0 := Lib.hid h0
  have hm := h.max
  obtain rfl := h.len
  clear h h0
  have hmm := run_make_on
  go_enter Tryd.func10, Tryd.ntmps10
  go_wp2_with fail
  go_loopw [14] (fun v wr => v = .int .i64 0 ∧ Hid (Below w.heap.size w wr)) (fun _ _ => 0)
  case atStart =>
    exact ⟨rfl, Lib.hid (((Below.refl _ _).alloc (Nat.le_refl _) _).alloc (by simp) _)⟩
  case round =>
    obtain ⟨rfl, HB⟩ := hrel
    have hb1 := HB.out.alloc HB.out.size (.cells #[.func (.func 20) #[] #[.pointer (some ⟨w.heap.size + 1, 0, none⟩)]] 42)
    have hA1 := At.new wr 42 #[.func (.func 20) #[] #[.pointer (some ⟨w.heap.size + 1, 0, none⟩)]]
    go_wp2_with fail
    generalize wr.alloc (.cells #[.func (.func 20) #[] #[.pointer (some ⟨w.heap.size + 1, 0, none⟩)]] 42) = W at hb1 hA1 ⊢
    have hC := fContH f (fun _ => true) (.pointer (some ⟨wr.heap.size, 0, none⟩)) A _ c W (HF.out.next hb1) (fun w' hb l A2 n2 c2 hl hm => by
      have h0 : l = [] := H0.out l hm
      subst h0
      obtain rfl := hl.len
      refine (fHolds2Nil A2 c2 wr.heap.size _ w' ((hA1.below hb hA1.lt).cell 0)).mono ?_
      rintro e w3 ⟨rfl, rfl⟩
      exact ⟨rfl, Below.refl _ _⟩)
    have HC := Lib.hid hC
    have HB1 := Lib.hid hb1
    clear hC hb1 hA1
    refine HC.out.mono ?_
    rintro e w3 ⟨rfl, hb3⟩
    have HB3 := Lib.hid (HB1.out.trans (hb3.mono HB1.out.size))
    clear hb3
    go_wp2_with fail
    go_ret
    refine ⟨?_, HB3.out⟩
    have : (f.any fun _ => true) = decide (0 < f.length) := by cases f <;> simp
    rw [this]; rfl

theorem one_empty (w : World) : FmAt ((w.alloc (.cells #[] 3)).alloc (.cells #[.slice (some ⟨w.heap.size, 0, none⟩) 0 0] 32)) (.slice (some ⟨w.heap.size + 1, 0, none⟩) 1 1) [[]] := by
  have h : IntsAt (w.alloc (.cells #[] 3)) (.slice (some ⟨w.heap.size, 0, none⟩) 0 0) [] := ⟨_, 0, rfl, Nat.le_refl _, by omega, (fun x hx => by cases hx), fun h => absurd h (Nat.lt_irrefl _)⟩
  have := one_at (T := 32) h
  simpa using this

set_option maxRecDepth 100000 in
set_option maxHeartbeats 8000000 in
theorem fAwake (w : World) : Calls Tryd.prog 4 #[] w fun e w' => e = .returned (.bool true) ∧ Below w.heap.size w w' := by
  go_enter Tryd.func4, Tryd.ntmps4
  have hT : ∀ w, Calls Tryd.prog 11 #[] w fun e w' => ∃ A, e = .returned (.slice A 1 1) ∧ FmAt w' (.slice A 1 1) [[]] ∧ Below w.heap.size w w' := by
    intro w
    go_enter Tryd.func11, Tryd.ntmps11
    go_wp2_with fail
    go_ret
    exact ⟨_, rfl, one_empty w, ((Below.refl _ _).alloc (Nat.le_refl _) _).alloc (by simp) _⟩
  have hF : ∀ w, Calls Tryd.prog 13 #[] w fun e w' => ∃ A, e = .returned (.slice A 0 0) ∧ FmAt w' (.slice A 0 0) [] ∧ Below w.heap.size w w' := by
    intro w
    go_enter Tryd.func13, Tryd.ntmps13
    go_wp2_with fail
    go_ret
    exact ⟨_, rfl, ⟨_, 0, rfl, Nat.le_refl _, by omega, fun h => absurd h (Nat.lt_irrefl _)⟩, (Below.refl _ _).alloc (Nat.le_refl _) _⟩
  have hA : ∀ w, Calls Tryd.prog 12 #[.int .i64 3] w fun e w' => ∃ A, e = .returned (.slice A 1 1) ∧ Below w.heap.size w w' := by
    intro w
    go_enter Tryd.func12, Tryd.ntmps12
    go_wp2_with fail
    go_ret
    exact ⟨_, rfl, ((Below.refl _ _).alloc (Nat.le_refl _) _).alloc (by simp) _⟩
  have HT := Lib.hid hT
  have HFa := Lib.hid hF
  have HA := Lib.hid hA
  clear hT hF hA
  go_wp2_with fail
  refine (HT.out w).mono ?_
  rintro e w1 ⟨A1, rfl, k1, k2⟩
  have K1 := Lib.hid k1
  have HB1 := Lib.hid k2
  clear k1 k2
  go_wp2_with fail
  refine (fHoldsNil [[]] A1 1 1 w1 K1.out (fun p hp => by simpa using hp)).mono ?_
  rintro e w2 ⟨rfl, k2⟩
  have HB2 := Lib.hid (HB1.out.trans (k2.mono HB1.out.size))
  have hd : decide (0 < ([[]] : Fm).length) = true := by decide
  rw [hd]
  clear k2 hd
  go_wp2_with fail
  refine (HA.out w2).mono ?_
  rintro e w3 ⟨A3, rfl, k2⟩
  have HB3 := Lib.hid (HB2.out.trans (k2.mono HB2.out.size))
  clear k2
  go_wp2_with fail
  refine (HFa.out w3).mono ?_
  rintro e w4 ⟨A4, rfl, k1, k2⟩
  have K4 := Lib.hid k1
  have HB4 := Lib.hid (HB3.out.trans (k2.mono HB3.out.size))
  clear k1 k2
  go_wp2_with fail
  refine (fHoldsNil [] A4 0 0 w4 K4.out (fun p hp => by cases hp)).mono ?_
  rintro e w5 ⟨rfl, k2⟩
  have HB5 := Lib.hid (HB4.out.trans (k2.mono HB4.out.size))
  have hd : decide (0 < ([] : Fm).length) = false := by decide
  rw [hd]
  clear k2 hd
  go_wp2_with fail
  go_ret
  exact ⟨rfl, HB5.out⟩

end Go.Proofs.YtehokjaojanieaaDoor
