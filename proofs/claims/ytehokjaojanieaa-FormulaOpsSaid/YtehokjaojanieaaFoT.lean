/- package formula: awake (True, False, Atom, Holds of no numbers). -/
import Derived.Test.YtehokjaojanieaaFoS
import Derived.Laws.EntriesVeiled
namespace Go.Proofs.Ytehokjaojanieaa
open Go.RowKit
set_option linter.unusedVariables false
set_option linter.unusedSimpArgs false

set_option maxRecDepth 100000 in
set_option maxHeartbeats 4000000 in
theorem fIdxNil (A : Option Addr) (c : Nat) (fv : Value) (w : World) : Calls Try.prog 53 #[.slice A 0 c, fv] w fun e w' => e = .returned (.int .i64 (-1)) ∧ w' = w := by
  go_enter Try.func53, Try.ntmps53
  go_wp2_with fail
  go_loopw [8] (fun v wr => v = .int .i64 0 ∧ w = wr) (fun _ _ => 0)
  case atStart => exact ⟨rfl, rfl⟩
  case round =>
    obtain ⟨rfl, rfl⟩ := hrel
    go_wp2_with fail
    go_ret
    exact ⟨rfl, rfl⟩
set_option maxRecDepth 100000 in
set_option maxHeartbeats 4000000 in
theorem fContNil (A : Option Addr) (c : Nat) (fv : Value) (w : World) : Calls Try.prog 42 #[.slice A 0 c, fv] w fun e w' => e = .returned (.bool false) ∧ w' = w := by
  go_enter Try.func42, Try.ntmps42
  go_wp2_with fail
  refine (fIdxNil A c fv w).mono ?_
  rintro e w1 ⟨rfl, rfl⟩
  go_wp2_with fail
  go_ret
  exact ⟨rfl, rfl⟩
set_option maxRecDepth 100000 in
set_option maxHeartbeats 4000000 in
theorem fHolds2Nil (A : Option Addr) (c b : Nat) (fv : Value) (w : World) (hb : w.cell? ⟨b, 0, none⟩ = some fv) : Calls Try.prog 41 #[.slice A 0 c, .pointer (some ⟨b, 0, none⟩)] w fun e w' => e = .returned (.bool true) ∧ w' = w := by
  go_enter Try.func41, Try.ntmps41
  go_wp2_with fail
  refine (fContNil A c fv w).mono ?_
  rintro e w1 ⟨rfl, rfl⟩
  go_wp2_with fail
  go_ret
  exact ⟨rfl, rfl⟩
set_option maxRecDepth 100000 in
set_option maxHeartbeats 4000000 in
theorem fContH (f : Fm) (p : List Int → Bool) (bx : Value) (A : Option Addr) (n c : Nat) (w : World) (h : FmAt w (.slice A n c) f)
    (hcall : ∀ w', Below w.heap.size w w' → ∀ l A n c, IntsAt w' (.slice A n c) l → l ∈ f → Calls Try.prog 41 #[.slice A n c, bx] w' fun e w'' => e = .returned (.bool (p l)) ∧ Below w'.heap.size w' w'') :
    Calls Try.prog 40 #[.slice A n c, .func (.func 41) #[] #[bx]] w fun e w' => e = .returned (.bool (f.any p)) ∧ Below w.heap.size w w' := by
  have HI := Lib.hid (fIndexH f p bx A n c w h hcall)
  clear h hcall
  go_enter Try.func40, Try.ntmps40
  go_wp2_with fail
  refine HI.out.mono ?_
  rintro e w1 ⟨r, rfl, hr, hb⟩
  have HB := Lib.hid hb
  clear hb
  rcases hr with ⟨rfl, h0⟩ | ⟨k, hk, rfl, h1, _⟩
  · have HE : Hid (f.any p = false) := Lib.hid (by rw [List.any_eq_false]; intro l hl; rw [h0 l hl]; simp)
    clear h0
    go_wp2_with fail
    go_ret
    exact ⟨by rw [HE.out]; rfl, HB.out⟩
  · have HE : Hid (f.any p = true) := Lib.hid (by rw [List.any_eq_true]; exact ⟨_, List.getElem_mem hk, by rw [← paAt_lt hk]; exact h1⟩)
    have h2 : (k : Int) ≥ 0 := by omega
    clear h1
    go_wp2_with fail
    go_ret
    exact ⟨by rw [HE.out]; rfl, HB.out⟩

theorem run_make_on (w : World) : (Instr.makeMap 65 (some (.int .i64 0))).run Try.prog w = .ok (.map (some w.heap.size)) (w.alloc (.map #[] 0)) := by
  simp [Instr.makeMap, run_underlying Try.underlying65]
  rfl

set_option maxRecDepth 100000 in
set_option maxHeartbeats 8000000 in
theorem fHoldsNil (f : Fm) (A : Option Addr) (n c : Nat) (w : World) (h : FmAt w (.slice A n c) f) (h0 : ∀ p ∈ f, p = []) :
    Calls Try.prog 16 #[.slice A n c, .slice none 0 0] w fun e w' => e = .returned (.bool (decide (0 < f.length))) ∧ Below w.heap.size w w' := by
  have HF := Lib.hid h
  have H0 := Lib.hid h0
  have hm := h.max
  obtain rfl := h.len
  clear h h0
  have hmm := run_make_on
  go_enter Try.func16, Try.ntmps16
  go_wp2_with fail
  go_loopw [14] (fun v wr => v = .int .i64 0 ∧ Hid (Below w.heap.size w wr)) (fun _ _ => 0)
  case atStart =>
    exact ⟨rfl, Lib.hid (((Below.refl _ _).alloc (Nat.le_refl _) _).alloc (by simp) _)⟩
  case round =>
    obtain ⟨rfl, HB⟩ := hrel
    have hb1 := HB.out.alloc HB.out.size (.cells #[.func (.func 39) #[] #[.pointer (some ⟨w.heap.size + 1, 0, none⟩)]] 68)
    have hA1 := At.new wr 68 #[.func (.func 39) #[] #[.pointer (some ⟨w.heap.size + 1, 0, none⟩)]]
    go_wp2_with fail
    generalize wr.alloc (.cells #[.func (.func 39) #[] #[.pointer (some ⟨w.heap.size + 1, 0, none⟩)]] 68) = W at hb1 hA1 ⊢
    have hC := fContH f (fun _ => true) (.pointer (some ⟨wr.heap.size, 0, none⟩)) A _ c W (HF.out.next hb1) (fun w' hb l A2 n2 c2 hl hm => by
      have h0 : l = [] := H0.out l hm
      subst h0
      obtain rfl := hl.len
      refine (fHolds2Nil A2 c2 wr.heap.size _ w' ((hA1.below hb hA1.lt).cell 0)).mono ?_
      rintro e w3 ⟨rfl, rfl⟩
      exact ⟨rfl, Below.refl _ _⟩)
    have HC := Lib.hid hC
    have HB1 := Lib.hid hb1
    clear hC hb1 hA1
    refine HC.out.mono ?_
    rintro e w3 ⟨rfl, hb3⟩
    have HB3 := Lib.hid (HB1.out.trans (hb3.mono HB1.out.size))
    clear hb3
    go_wp2_with fail
    go_ret
    refine ⟨?_, HB3.out⟩
    have : (f.any fun _ => true) = decide (0 < f.length) := by cases f <;> simp
    rw [this]; rfl

theorem one_empty (w : World) : FmAt ((w.alloc (.cells #[] 3)).alloc (.cells #[.slice (some ⟨w.heap.size, 0, none⟩) 0 0] 34)) (.slice (some ⟨w.heap.size + 1, 0, none⟩) 1 1) [[]] := by
  have h : IntsAt (w.alloc (.cells #[] 3)) (.slice (some ⟨w.heap.size, 0, none⟩) 0 0) [] := ⟨_, 0, rfl, Nat.le_refl _, by omega, (fun x hx => by cases hx), fun h => absurd h (Nat.lt_irrefl _)⟩
  have := one_at (T := 34) h
  simpa using this

set_option maxRecDepth 100000 in
set_option maxHeartbeats 8000000 in
theorem fAwake (w : World) : Calls Try.prog 5 #[] w fun e w' => e = .returned (.bool true) ∧ Below w.heap.size w w' := by
  go_enter Try.func5, Try.ntmps5
  have hT : ∀ w, Calls Try.prog 17 #[] w fun e w' => ∃ A, e = .returned (.slice A 1 1) ∧ FmAt w' (.slice A 1 1) [[]] ∧ Below w.heap.size w w' := by
    intro w
    go_enter Try.func17, Try.ntmps17
    go_wp2_with fail
    go_ret
    exact ⟨_, rfl, one_empty w, ((Below.refl _ _).alloc (Nat.le_refl _) _).alloc (by simp) _⟩
  have hF : ∀ w, Calls Try.prog 19 #[] w fun e w' => ∃ A, e = .returned (.slice A 0 0) ∧ FmAt w' (.slice A 0 0) [] ∧ Below w.heap.size w w' := by
    intro w
    go_enter Try.func19, Try.ntmps19
    go_wp2_with fail
    go_ret
    exact ⟨_, rfl, ⟨_, 0, rfl, Nat.le_refl _, by omega, fun h => absurd h (Nat.lt_irrefl _)⟩, (Below.refl _ _).alloc (Nat.le_refl _) _⟩
  have hA : ∀ w, Calls Try.prog 18 #[.int .i64 3] w fun e w' => ∃ A, e = .returned (.slice A 1 1) ∧ Below w.heap.size w w' := by
    intro w
    go_enter Try.func18, Try.ntmps18
    go_wp2_with fail
    go_ret
    exact ⟨_, rfl, ((Below.refl _ _).alloc (Nat.le_refl _) _).alloc (by simp) _⟩
  have HT := Lib.hid hT
  have HFa := Lib.hid hF
  have HA := Lib.hid hA
  clear hT hF hA
  go_wp2_with fail
  refine (HT.out w).mono ?_
  rintro e w1 ⟨A1, rfl, k1, k2⟩
  have K1 := Lib.hid k1
  have HB1 := Lib.hid k2
  clear k1 k2
  go_wp2_with fail
  refine (fHoldsNil [[]] A1 1 1 w1 K1.out (fun p hp => by simpa using hp)).mono ?_
  rintro e w2 ⟨rfl, k2⟩
  have HB2 := Lib.hid (HB1.out.trans (k2.mono HB1.out.size))
  have hd : decide (0 < ([[]] : Fm).length) = true := by decide
  rw [hd]
  clear k2 hd
  go_wp2_with fail
  refine (HA.out w2).mono ?_
  rintro e w3 ⟨A3, rfl, k2⟩
  have HB3 := Lib.hid (HB2.out.trans (k2.mono HB2.out.size))
  clear k2
  go_wp2_with fail
  refine (HFa.out w3).mono ?_
  rintro e w4 ⟨A4, rfl, k1, k2⟩
  have K4 := Lib.hid k1
  have HB4 := Lib.hid (HB3.out.trans (k2.mono HB3.out.size))
  clear k1 k2
  go_wp2_with fail
  refine (fHoldsNil [] A4 0 0 w4 K4.out (fun p hp => by cases hp)).mono ?_
  rintro e w5 ⟨rfl, k2⟩
  have HB5 := Lib.hid (HB4.out.trans (k2.mono HB4.out.size))
  have hd : decide (0 < ([] : Fm).length) = false := by decide
  rw [hd]
  clear k2 hd
  go_wp2_with fail
  go_ret
  exact ⟨rfl, HB5.out⟩

end Go.Proofs.Ytehokjaojanieaa
