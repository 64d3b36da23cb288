/- package formula: Same; slices.IndexFunc of a formula. -/
import Derived.Test.YtehokjaojanieaaFoR
namespace Go.Proofs.Ytehokjaojanieaa
open Go.RowKit
set_option linter.unusedVariables false
set_option linter.unusedSimpArgs false

set_option maxRecDepth 100000 in
set_option maxHeartbeats 4000000 in
theorem fSame {w : World} {A B : Option Addr} {n c m d : Nat} {f g : Fm} (hf : FmAt w (.slice A n c) f) (hg : FmAt w (.slice B m d) g) :
    Calls Try.prog 15 #[.slice A n c, .slice B m d] w fun e w' => e = .returned (.bool (decide (f = g))) ∧ Below w.heap.size w w' := by
  have HF := Lib.hid hf
  have HG := Lib.hid hg
  have hm := hf.max
  have hm' := hg.max
  obtain rfl := hf.len
  obtain rfl := hg.len
  have eg : ∀ args w, (callFunc 38 args).run Try.prog w = .ok (.enter 38 args) w := enters_of Try.func38 (by kernel_rfl) rfl
  clear hf hg
  have hE : Calls Try.prog 37 #[.slice A f.length c, .slice B g.length d, .func (.func 38) #[] #[]] w fun e w' => e = .returned (.bool (decide (f = g))) ∧ ∃ q, w' = w.drewN q := by
    go_enter Try.func37, Try.ntmps37
    by_cases hl : f.length = g.length
    · have h1 : ((f.length : Int) != (g.length : Int)) = false := by simp [hl]
      have HL := Lib.hid hl
      clear hl
      go_wp2_with fail
      go_loopw [17] (fun v wr => ∃ i q : Nat, i ≤ f.length ∧ v = .int .i64 i ∧ wr = w.drewN q ∧ Hid (f.take i = g.take i)) (fun v _ => f.length - (intOf v).toNat)
      case atStart => exact ⟨0, 0, Nat.zero_le _, rfl, rfl, Lib.hid (by simp)⟩
      case round =>
        obtain ⟨i, q, hi, rfl, rfl, HN⟩ := hrel
        by_cases hlt : i < f.length
        · have h1 : (0 : Int) ≤ (i : Int) := by omega
          have h2 : (i : Int) < (f.length : Int) := by omega
          have hlg : i < g.length := by have := HL.out; omega
          have h3 : (i : Int) < (g.length : Int) := by omega
          obtain ⟨b, off, A2, c2, rfl, _, q1, hp⟩ := HF.out.at i hlt
          obtain ⟨b', off', B2, d2, rfl, _, q2, hq⟩ := HG.out.at i hlg
          obtain ⟨r, hr⟩ : ∃ r, (paAt f i == paAt g i) = r := ⟨_, rfl⟩
          have hE := fEqual (paAt f i) (paAt g i) A2 B2 _ c2 _ d2 (w.drewN q) (hp.drewN q) (hq.drewN q)
          rw [hr] at hE
          have HE := Lib.hid hE
          have HR := Lib.hid hr
          have q1' : (w.drewN q).cell? ⟨b, off + i, none⟩ = some (.slice A2 (paAt f i).length c2) := q1
          have q2' : (w.drewN q).cell? ⟨b', off' + i, none⟩ = some (.slice B2 (paAt g i).length d2) := q2
          clear hE hr hp hq
          cases r
          · go_wp2_with fail
            refine HE.out.mono ?_
            rintro e w3 ⟨rfl, q', rfl⟩
            go_wp2_with fail
            go_ret
            refine ⟨?_, q + q', by first | rfl | rw [World.drewN_drewN]⟩
            rw [decide_eq_false (ne_at (fun e => by have := HR.out; rw [e] at this; simp at this))]; rfl
          · go_wp2_with fail
            refine HE.out.mono ?_
            rintro e w3 ⟨rfl, q', rfl⟩
            go_wp2_with fail
            refine ⟨⟨i + 1, q + q', by omega, by go_num, by first | rfl | rw [World.drewN_drewN], Lib.hid ?_⟩, by simp [intOf]; omega⟩
            rw [take_step f i hlt, take_step g i hlg, HN.out]
            have h5 : paAt f i = paAt g i := by simpa using HR.out
            rw [paAt_lt hlt, paAt_lt hlg] at h5
            rw [h5]
        · obtain rfl : i = f.length := by omega
          go_wp2_with fail
          go_ret
          refine ⟨?_, q, rfl⟩
          have h5 := HN.out
          rw [List.take_length, HL.out, List.take_length] at h5
          rw [decide_eq_true h5]; rfl
    · have h1 : ((f.length : Int) != (g.length : Int)) = true := by simp; omega
      have HE : Hid (decide (f = g) = false) := Lib.hid (decide_eq_false (fun e => hl (by rw [e])))
      clear hl
      go_wp2_with fail
      go_ret
      exact ⟨by rw [HE.out]; rfl, 0, rfl⟩
  have HE := Lib.hid hE
  clear hE
  go_enter Try.func15, Try.ntmps15
  go_wp2_with fail
  refine HE.out.mono ?_
  rintro e w3 ⟨rfl, q, rfl⟩
  go_wp2_with fail
  go_ret
  exact ⟨rfl, below_dn (Below.refl _ _) q⟩

set_option maxRecDepth 100000 in
set_option maxHeartbeats 4000000 in
/-- The first part of which p holds, or -1. -/
theorem fIndexD (f : Fm) (p : List Int → Bool) (A : Option Addr) (n c : Nat) (w : World) (h : FmAt w (.slice A n c) f)
    (hcall : ∀ w', Below w.heap.size w w' → ∀ l A n c, IntsAt w' (.slice A n c) l → l ∈ f → Calls Try.prog 30 #[.slice A n c] w' fun e w'' => e = .returned (.bool (p l)) ∧ Below w'.heap.size w' w'') :
    Calls Try.prog 29 #[.slice A n c, .func (.func 30) #[] #[]] w fun e w' =>
      ∃ r : Int, e = .returned (.int .i64 r) ∧ ((r = -1 ∧ ∀ l ∈ f, p l = false) ∨ ∃ k : Nat, k < f.length ∧ r = k ∧ p (paAt f k) = true ∧ ∀ j, j < k → p (paAt f j) = false) ∧ Below w.heap.size w w' := by
  have HI := Lib.hid h
  have hm := h.max
  obtain rfl := h.len
  have HC := Lib.hid hcall
  have eg : ∀ args w, (callFunc 30 args).run Try.prog w = .ok (.enter 30 args) w := enters_of Try.func30 (by kernel_rfl) rfl
  clear h hcall
  go_enter Try.func29, Try.ntmps29
  go_wp2_with fail
  go_loopw [8] (fun v wr => ∃ i : Nat, i ≤ f.length ∧ v = .int .i64 i ∧ Hid (Below w.heap.size w wr) ∧ Hid (∀ j, j < i → p (paAt f j) = false)) (fun v _ => f.length - (intOf v).toNat)
  case atStart => exact ⟨0, Nat.zero_le _, rfl, Lib.hid (Below.refl _ _), Lib.hid (fun j hj => absurd hj (Nat.not_lt_zero _))⟩
  case round =>
    obtain ⟨i, hi, rfl, HB, HN⟩ := hrel
    by_cases hlt : i < f.length
    · have h1 : (0 : Int) ≤ (i : Int) := by omega
      have h2 : (i : Int) < (f.length : Int) := by omega
      obtain ⟨b, off, A2, c2, rfl, _, q1, hp⟩ := (HI.out.next HB.out).at i hlt
      have hcl := HC.out wr HB.out (paAt f i) A2 _ c2 hp (by rw [paAt_lt hlt]; exact List.getElem_mem hlt)
      obtain ⟨r, hr⟩ : ∃ r, p (paAt f i) = r := ⟨_, rfl⟩
      rw [hr] at hcl
      have HCl := Lib.hid hcl
      have HR := Lib.hid hr
      clear hcl hr hp
      cases r
      · go_wp2_with fail
        refine HCl.out.mono ?_
        rintro e w3 ⟨rfl, hb3⟩
        have HB3 := Lib.hid (HB.out.trans (hb3.mono HB.out.size))
        clear hb3
        go_wp2_with fail
        refine ⟨⟨i + 1, by omega, by go_num, HB3, Lib.hid (fun j hj => ?_)⟩, by simp [intOf]; omega⟩
        by_cases e : j = i
        · rw [e]; exact HR.out
        · exact HN.out j (by omega)
      · go_wp2_with fail
        refine HCl.out.mono ?_
        rintro e w3 ⟨rfl, hb3⟩
        have HB3 := Lib.hid (HB.out.trans (hb3.mono HB.out.size))
        clear hb3
        go_wp2_with fail
        go_ret
        exact ⟨_, rfl, .inr ⟨i, hlt, rfl, HR.out, HN.out⟩, HB3.out⟩
    · obtain rfl : i = f.length := by omega
      go_wp2_with fail
      go_ret
      refine ⟨_, rfl, .inl ⟨rfl, fun l hl => ?_⟩, HB.out⟩
      obtain ⟨j, hj, rfl⟩ := List.mem_iff_getElem.1 hl
      have := HN.out j hj
      rwa [paAt_lt hj] at this

set_option maxRecDepth 100000 in
set_option maxHeartbeats 4000000 in
/-- The first part of which p holds, or -1. -/
theorem fIndexH (f : Fm) (p : List Int → Bool) (bx : Value) (A : Option Addr) (n c : Nat) (w : World) (h : FmAt w (.slice A n c) f)
    (hcall : ∀ w', Below w.heap.size w w' → ∀ l A n c, IntsAt w' (.slice A n c) l → l ∈ f → Calls Try.prog 41 #[.slice A n c, bx] w' fun e w'' => e = .returned (.bool (p l)) ∧ Below w'.heap.size w' w'') :
    Calls Try.prog 29 #[.slice A n c, .func (.func 41) #[] #[bx]] w fun e w' =>
      ∃ r : Int, e = .returned (.int .i64 r) ∧ ((r = -1 ∧ ∀ l ∈ f, p l = false) ∨ ∃ k : Nat, k < f.length ∧ r = k ∧ p (paAt f k) = true ∧ ∀ j, j < k → p (paAt f j) = false) ∧ Below w.heap.size w w' := by
  have HI := Lib.hid h
  have hm := h.max
  obtain rfl := h.len
  have HC := Lib.hid hcall
  have eg : ∀ args w, (callFunc 41 args).run Try.prog w = .ok (.enter 41 args) w := enters_of Try.func41 (by kernel_rfl) rfl
  clear h hcall
  go_enter Try.func29, Try.ntmps29
  go_wp2_with fail
  go_loopw [8] (fun v wr => ∃ i : Nat, i ≤ f.length ∧ v = .int .i64 i ∧ Hid (Below w.heap.size w wr) ∧ Hid (∀ j, j < i → p (paAt f j) = false)) (fun v _ => f.length - (intOf v).toNat)
  case atStart => exact ⟨0, Nat.zero_le _, rfl, Lib.hid (Below.refl _ _), Lib.hid (fun j hj => absurd hj (Nat.not_lt_zero _))⟩
  case round =>
    obtain ⟨i, hi, rfl, HB, HN⟩ := hrel
    by_cases hlt : i < f.length
    · have h1 : (0 : Int) ≤ (i : Int) := by omega
      have h2 : (i : Int) < (f.length : Int) := by omega
      obtain ⟨b, off, A2, c2, rfl, _, q1, hp⟩ := (HI.out.next HB.out).at i hlt
      have hcl := HC.out wr HB.out (paAt f i) A2 _ c2 hp (by rw [paAt_lt hlt]; exact List.getElem_mem hlt)
      obtain ⟨r, hr⟩ : ∃ r, p (paAt f i) = r := ⟨_, rfl⟩
      rw [hr] at hcl
      have HCl := Lib.hid hcl
      have HR := Lib.hid hr
      clear hcl hr hp
      cases r
      · go_wp2_with fail
        refine HCl.out.mono ?_
        rintro e w3 ⟨rfl, hb3⟩
        have HB3 := Lib.hid (HB.out.trans (hb3.mono HB.out.size))
        clear hb3
        go_wp2_with fail
        refine ⟨⟨i + 1, by omega, by go_num, HB3, Lib.hid (fun j hj => ?_)⟩, by simp [intOf]; omega⟩
        by_cases e : j = i
        · rw [e]; exact HR.out
        · exact HN.out j (by omega)
      · go_wp2_with fail
        refine HCl.out.mono ?_
        rintro e w3 ⟨rfl, hb3⟩
        have HB3 := Lib.hid (HB.out.trans (hb3.mono HB.out.size))
        clear hb3
        go_wp2_with fail
        go_ret
        exact ⟨_, rfl, .inr ⟨i, hlt, rfl, HR.out, HN.out⟩, HB3.out⟩
    · obtain rfl : i = f.length := by omega
      go_wp2_with fail
      go_ret
      refine ⟨_, rfl, .inl ⟨rfl, fun l hl => ?_⟩, HB.out⟩
      obtain ⟨j, hj, rfl⟩ := List.mem_iff_getElem.1 hl
      have := HN.out j hj
      rwa [paAt_lt hj] at this

end Go.Proofs.Ytehokjaojanieaa
