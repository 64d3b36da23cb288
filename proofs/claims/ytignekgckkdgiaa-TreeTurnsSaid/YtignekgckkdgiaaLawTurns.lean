/- TreeTurns answers true. -/
import Derived.Test.YtignekgckkdgiaaProg
import Derived.Test.YtignekgckkdgiaaAwake3
import Derived.Test.YtignekgckkdgiaaFewSlim
import Derived.Test.YtignekgckkdgiaaRefTurn
import Derived.Test.YtignekgckkdgiaaRefSame
import Derived.Test.YtignekgckkdgiaaRefSpans
import Derived.Test.YtignekgckkdgiaaTurnSpans
import Derived.Test.YtignekgckkdgiaaReversed
import Derived.Deep.RegionHeld3
import Derived.Deep.RegionWith
import Derived.Deep.QuietTactic
import Derived.BigQuiet
namespace Go.Proofs.Ytignekgckkdgiaa
open Go.RowKit
set_option linter.unusedSimpArgs false
set_option linter.unusedVariables false

theorem at_range {w : World} {g : Nat} {ty : TypeId} {t : Tr} (h : At w g ty t.cs.toArray) : w.rangeAt g 0 t.cs := fun j v hv => by
  rw [Nat.zero_add, h.cell]; simpa using hv
theorem formed_of {k : Nat} {t : Tr} (h : isFormed k t = true) : deepS k 40 t ≤ 40 ∧ formedS k t = true := by
  unfold isFormed at h
  rw [Bool.and_eq_true, Bool.and_eq_true, decide_eq_true_iff] at h
  exact ⟨by omega, h.2.1⟩
theorem formed_turn {k : Nat} {t x : Tr} (hx : x.strip k = (turnS k t).strip k) (h : isFormed k t = true) : isFormed k x = true := by
  unfold isFormed at h ⊢
  rw [deepS_congr k 40 x _ hx, formedS_congr k x _ hx, sizeS_congr k x _ hx, turn_deep, turn_formed, turn_size]
  exact h
theorem same_turn {k : Nat} {t x y : Tr} {w : World} (hk : 0 < k) (hi : Tr.In w k x) (hx : x.strip k = (turnS k t).strip k) (hy : y.strip k = turnS k t) (hd : deepS k 40 t ≤ 40) : sameS k 41 x y = true :=
  sameS_strip k 40 x y hk (by rw [hx, hy, turn_strip]) (by omega) (by rw [deepS_congr k 40 x _ hx, turn_deep]; exact hd) w hi
theorem same_twice {k : Nat} {t x z : Tr} {w : World} (hk : 0 < k) (hi : Tr.In w k z) (hx : x.strip k = (turnS k t).strip k) (hz : z.strip k = turnS k x) (hd : deepS k 40 t ≤ 40) : sameS k 41 z t = true := by
  have e : z.strip k = t.strip k := by rw [hz, ← turnS_strip, hx, turn_strip, turn_turn]
  exact sameS_strip k 40 z t hk e (by omega) (by rw [deepS_congr k 40 z _ e]; exact hd) w hi
theorem turns_at {k n i j : Nat} {t x : Tr} {l : List Nat} (hn : n = l.length) (hx : x.strip k = (turnS k t).strip k) (hf : formedS k t = true) (hi : i ≤ j) (hj : j ≤ n) : spansS l.reverse k x (n - j) (n - i) = spansS l k t i j := by
  rw [spans_congr l.reverse k x _ hx, spans_turn l k t hf (n - j) (n - i) (by omega) (by omega)]
  show spansS l k t (l.length + 1 - 1 - (n - i)) (l.length + 1 - 1 - (n - j)) = _
  rw [show l.length + 1 - 1 - (n - i) = i by omega, show l.length + 1 - 1 - (n - j) = j by omega]

set_option maxRecDepth 100000 in
set_option maxHeartbeats 400000 in
theorem lawTurnsFew (k : Nat) (t : Tr) (A : Option Addr) (n c : Nat) (l : List Nat) (w : World) (h : Tr.In w k t) (hb : IsBytes w A n l) (hc : ¬ countS k 60 t ≤ 2000) :
    Calls Try.prog 5 #[.agg t.cs.toArray, .slice A n c] w fun e w' => e = .returned (.bool true) ∧ Below w.heap.size w w' := by
  have HC : Hid (decide (countS k 60 t ≤ 2000) = false) := Lib.hid (dec_f hc)
  clear hc
  have HI := Lib.hid h
  have HBy := Lib.hid hb
  have hA : At (w.alloc (Obj.cells t.cs.toArray 27)) w.heap.size 27 t.cs.toArray := At.new _ _ _
  have hB : Below w.heap.size w (w.alloc (Obj.cells t.cs.toArray 27)) := (Below.refl _ _).alloc (Nat.le_refl _) _
  clear h hb
  go_enter Try.func5, Try.ntmps5
  go_wp2_with fail
  refine (lawAwake _).mono ?_
  rintro e w1 ⟨rfl, hb1⟩
  have hA := hA.step hb1 rfl
  have hB := below_step hB hb1 rfl rfl rfl rfl
  clear hb1
  go_wp2_with (first
    | ((with_reducible show wpList _ _ _ ({ dst := _, op := .load 27 _, type := _, pos := _, after := _, guard := _ } :: _) _ _); refine wpList_load_row_want (by rfl) 27 _ rfl w.heap.size rfl 27 t.cs.toArray (0, 0) _ hA Try.underlying27 rfl (by kernel_rfl) ?_) | fail)
  refine (lawFew k 60 t _ (by omega) (by omega) (HI.out.next hB)).mono ?_
  rintro e w2 ⟨rfl, hb2⟩
  rw [HC.out]
  have hA := hA.step hb2 rfl
  have hB := below_step hB hb2 rfl rfl rfl rfl
  clear hb2
  go_wp2_with fail
  refine (lawAwake _).mono ?_
  rintro e w3 ⟨rfl, hb3⟩
  have HB := Lib.hid (below_step hB hb3 rfl rfl rfl rfl)
  clear hb3 hA hB
  go_wp2_with fail
  go_ret
  exact ⟨rfl, HB.out⟩

set_option maxRecDepth 100000 in
set_option maxHeartbeats 400000 in
theorem lawTurnsLong (k : Nat) (t : Tr) (A : Option Addr) (n c : Nat) (l : List Nat) (w : World) (h : Tr.In w k t) (hb : IsBytes w A n l) (hc : countS k 60 t ≤ 2000) (hl : 10 < n) :
    Calls Try.prog 5 #[.agg t.cs.toArray, .slice A n c] w fun e w' => e = .returned (.bool true) ∧ Below w.heap.size w w' := by
  have HC : Hid (decide (countS k 60 t ≤ 2000) = true) := Lib.hid (dec_t hc)
  have hl1 : (10 : Int) < (n : Int) := by omega
  have hl2 := dec_t hl1
  clear hc
  have HI := Lib.hid h
  have HBy := Lib.hid hb
  have hA : At (w.alloc (Obj.cells t.cs.toArray 27)) w.heap.size 27 t.cs.toArray := At.new _ _ _
  have hB : Below w.heap.size w (w.alloc (Obj.cells t.cs.toArray 27)) := (Below.refl _ _).alloc (Nat.le_refl _) _
  clear h hb
  go_enter Try.func5, Try.ntmps5
  go_wp2_with fail
  refine (lawAwake _).mono ?_
  rintro e w1 ⟨rfl, hb1⟩
  have hA := hA.step hb1 rfl
  have hB := below_step hB hb1 rfl rfl rfl rfl
  clear hb1
  go_wp2_with (first
    | ((with_reducible show wpList _ _ _ ({ dst := _, op := .load 27 _, type := _, pos := _, after := _, guard := _ } :: _) _ _); refine wpList_load_row_want (by rfl) 27 _ rfl w.heap.size rfl 27 t.cs.toArray (0, 0) _ hA Try.underlying27 rfl (by kernel_rfl) ?_) | fail)
  refine (lawFew k 60 t _ (by omega) (by omega) (HI.out.next hB)).mono ?_
  rintro e w2 ⟨rfl, hb2⟩
  rw [HC.out]
  have hA := hA.step hb2 rfl
  have hB := below_step hB hb2 rfl rfl rfl rfl
  clear hb2
  go_wp2_with fail
  refine (lawAwake _).mono ?_
  rintro e w3 ⟨rfl, hb3⟩
  have HB := Lib.hid (below_step hB hb3 rfl rfl rfl rfl)
  clear hb3 hA hB
  go_wp2_with fail
  go_ret
  exact ⟨rfl, HB.out⟩

set_option maxRecDepth 100000 in
set_option maxHeartbeats 400000 in
theorem lawTurnsNot (k : Nat) (t : Tr) (A : Option Addr) (n c : Nat) (l : List Nat) (w : World) (h : Tr.In w k t) (hb : IsBytes w A n l) (hc : countS k 60 t ≤ 2000) (hl : ¬ 10 < n) (hf : isFormed k t = false) :
    Calls Try.prog 5 #[.agg t.cs.toArray, .slice A n c] w fun e w' => e = .returned (.bool true) ∧ Below w.heap.size w w' := by
  have HC : Hid (decide (countS k 60 t ≤ 2000) = true) := Lib.hid (dec_t hc)
  have hl1 : ¬ (10 : Int) < (n : Int) := by omega
  have hl2 := dec_f hl1
  have HF := Lib.hid hf
  have hone := Tr.one Tr.blank
  clear hc hf
  have HI := Lib.hid h
  have HBy := Lib.hid hb
  have hA : At (w.alloc (Obj.cells t.cs.toArray 27)) w.heap.size 27 t.cs.toArray := At.new _ _ _
  have hB : Below w.heap.size w (w.alloc (Obj.cells t.cs.toArray 27)) := (Below.refl _ _).alloc (Nat.le_refl _) _
  clear h hb
  go_enter Try.func5, Try.ntmps5
  go_wp2_with fail
  refine (lawAwake _).mono ?_
  rintro e w1 ⟨rfl, hb1⟩
  have hA := hA.step hb1 rfl
  have hB := below_step hB hb1 rfl rfl rfl rfl
  clear hb1
  go_wp2_with (first
    | ((with_reducible show wpList _ _ _ ({ dst := _, op := .load 27 _, type := _, pos := _, after := _, guard := _ } :: _) _ _); refine wpList_load_row_want (by rfl) 27 _ rfl w.heap.size rfl 27 t.cs.toArray (0, 0) _ hA Try.underlying27 rfl (by kernel_rfl) ?_) | fail)
  refine (lawFew k 60 t _ (by omega) (by omega) (HI.out.next hB)).mono ?_
  rintro e w2 ⟨rfl, hb2⟩
  rw [HC.out]
  have hA := hA.step hb2 rfl
  have hB := below_step hB hb2 rfl rfl rfl rfl
  clear hb2
  have HA := Lib.hid hA
  have HB := Lib.hid hB
  clear hB
  go_wp2_with (first
  | ((with_reducible show wpList _ _ _ ({ dst := _, op := .load 27 _, type := _, pos := _, after := _, guard := _ } :: _) _ _); refine wpList_load_row rfl 27 _ rfl w.heap.size rfl 27 t.cs.toArray (0, 0) _ hA Try.underlying27 rfl (by kernel_rfl) ?_) | fail)
  refine (treeTurnNo k t _ (HI.out.next HB.out) HF.out).mono ?_
  rintro e w3 ⟨rfl, hb3⟩
  have HA3 := Lib.hid (HA.out.below hb3 HA.out.lt)
  have HB3 := Lib.hid (HB.out.trans (hb3.mono HB.out.size))
  clear hb3 hA
  have HAb := Lib.hid (HA3.out.below (boxW_next w3 Tr.blank) HA3.out.lt)
  have HBb := Lib.hid (boxW_below HB3.out Tr.blank)
  have HX := Lib.hid (boxW_at w3 Tr.blank)
  go_wp2_with (first
    | ((with_reducible show wpList _ _ _ ({ dst := none, op := .store 27 _ _, type := _, pos := _, after := _, guard := _ } :: _) _ _); refine wpList_store_row rfl 27 _ _ rfl w3.heap.size Tr.blank.cs.toArray rfl rfl 27 Tr.blank.cs.toArray (At.new _ _ _) (by kernel_rfl) rfl hone ?_; change Exit.then _ _ _ _ (boxW w3 Tr.blank))
    | ((with_reducible show wpList _ _ _ ({ dst := _, op := .load 27 _, type := _, pos := _, after := _, guard := _ } :: _) _ _); refine wpList_load_row rfl 27 _ rfl w.heap.size rfl 27 t.cs.toArray (0, 0) _ HAb.out Try.underlying27 rfl (by kernel_rfl) ?_) | fail)
  refine (refFormed k t _ (HI.out.next HBb.out)).mono ?_
  rintro e w5 ⟨rfl, hb5⟩
  rw [HF.out]
  have HX5 := Lib.hid (HX.out.below hb5 HX.out.lt)
  have HB5 := Lib.hid (HBb.out.trans (hb5.mono HBb.out.size))
  have c0 : w5.cell? ⟨w3.heap.size, 0, none⟩ = some (.int .i64 0) := HX5.out.cell 0
  have c5 : w5.cell? ⟨w3.heap.size, 5, none⟩ = some (.slice none 0 0) := HX5.out.cell 5
  clear hb5
  go_wp2_with fail
  go_ret
  exact ⟨rfl, HB5.out⟩

set_option maxRecDepth 100000 in
set_option maxHeartbeats 400000 in
theorem lawTurnsYes (k : Nat) (t : Tr) (A : Option Addr) (n c : Nat) (l : List Nat) (w : World) (h : Tr.In w k t) (hb : IsBytes w A n l) (hc : countS k 60 t ≤ 2000) (hl : ¬ 10 < n) (hf : isFormed k t = true) :
    Calls Try.prog 5 #[.agg t.cs.toArray, .slice A n c] w fun e w' => e = .returned (.bool true) ∧ Below w.heap.size w w' := by
  have HC : Hid (decide (countS k 60 t ≤ 2000) = true) := Lib.hid (dec_t hc)
  have hl1 : ¬ (10 : Int) < (n : Int) := by omega
  have hl2 := dec_f hl1
  have hk0 : 0 < k := by
    cases k with
    | zero => exact h.elim
    | succ k => omega
  have HSl := Lib.hid (few_slim k 60 t h (by omega) hc)
  have HF := Lib.hid hf
  obtain ⟨hd40, hfo⟩ := formed_of hf
  have HD40 := Lib.hid hd40
  have HFo := Lib.hid hfo
  have HLen := Lib.hid hb.1
  have HRt : Hid (∀ w0, Tr.In w0 k t → Calls Try.prog 18 #[.agg t.cs.toArray] w0 (Made turnS k t w0)) := Lib.hid (fun w0 h0 => refTurn k t w0 h0 HSl.out)
  obtain ⟨N, hN⟩ : ∃ N, N = n + 1 := ⟨_, rfl⟩
  have HNN := Lib.hid hN
  have hN11 : N ≤ 1000 := by omega
  have HSp : Hid (∀ w0, Tr.In w0 k t → IsBytes w0 A n l → Calls Try.prog 19 #[.agg t.cs.toArray, .slice A n c] w0 (Tabled w0 N (spansS l k t))) := Lib.hid (fun w0 h0 h1 => by
    have hn := h1.1
    have := refSpans l k t A c w0 h0 HSl.out hfo (by rw [← hn]; exact h1) (by omega)
    rw [← hn, ← hN] at this; exact this)
  have HRv : Hid (∀ w0, IsBytes w0 A n l → Calls Try.prog 20 #[.slice A n c] w0 fun e w' => ∃ g, e = .returned (.slice (some ⟨g, 0, none⟩) n n) ∧ IsBytes w' (some ⟨g, 0, none⟩) n l.reverse ∧ Below w0.heap.size w0 w') := Lib.hid (fun w0 h0 => lawReversed A n c l (by omega) w0 h0)
  have HN2 := Lib.hid hN
  clear hc hf hd40 hfo hN
  have HI := Lib.hid h
  have HBy := Lib.hid hb
  have hA : At (w.alloc (Obj.cells t.cs.toArray 27)) w.heap.size 27 t.cs.toArray := At.new _ _ _
  have hB : Below w.heap.size w (w.alloc (Obj.cells t.cs.toArray 27)) := (Below.refl _ _).alloc (Nat.le_refl _) _
  clear h hb
  go_enter Try.func5, Try.ntmps5
  go_wp2_with fail
  refine (lawAwake _).mono ?_
  rintro e w1 ⟨rfl, hb1⟩
  have hA := hA.step hb1 rfl
  have hB := below_step hB hb1 rfl rfl rfl rfl
  clear hb1
  go_wp2_with (first
    | ((with_reducible show wpList _ _ _ ({ dst := _, op := .load 27 _, type := _, pos := _, after := _, guard := _ } :: _) _ _); refine wpList_load_row_want (by rfl) 27 _ rfl w.heap.size rfl 27 t.cs.toArray (0, 0) _ hA Try.underlying27 rfl (by kernel_rfl) ?_) | fail)
  refine (lawFew k 60 t _ (by omega) (by omega) (HI.out.next hB)).mono ?_
  rintro e w2 ⟨rfl, hb2⟩
  rw [HC.out]
  have hA := hA.step hb2 rfl
  have hB := below_step hB hb2 rfl rfl rfl rfl
  clear hb2
  have HA := Lib.hid hA
  have HB := Lib.hid hB
  clear hB
  go_wp2_with (first
  | ((with_reducible show wpList _ _ _ ({ dst := _, op := .load 27 _, type := _, pos := _, after := _, guard := _ } :: _) _ _); refine wpList_load_row rfl 27 _ rfl w.heap.size rfl 27 t.cs.toArray (0, 0) _ hA Try.underlying27 rfl (by kernel_rfl) ?_) | fail)
  refine (treeTurnYes k t _ (HI.out.next HB.out) HSl.out HF.out).mono ?_
  rintro e w3 ⟨x, rfl, hxi, hxf, hxs, hb3⟩
  have HSx : Hid (∀ w0 g, Tr.In w0 k x → IsBytes w0 (some ⟨g, 0, none⟩) n l.reverse → Calls Try.prog 19 #[.agg x.cs.toArray, .slice (some ⟨g, 0, none⟩) n n] w0 (Tabled w0 N (spansS l.reverse k x))) := Lib.hid (fun w0 g h0 h1 => by
    have hn := h1.1
    have hxs' : x.strip k = (turnS k t).strip k := by rw [turn_strip]; exact hxs
    have hfx : formedS k x = true := by rw [formedS_congr k x _ hxs', turn_formed]; exact HFo.out
    have := refSpans l.reverse k x (some ⟨g, 0, none⟩) n w0 h0 (slim_strip k x _ hxs' (slim_turn k t HSl.out)) hfx (by rw [← hn]; exact h1) (by omega)
    rw [← hn, ← HN2.out] at this; exact this)
  have HXs : Hid (x.strip k = (turnS k t).strip k) := Lib.hid (by rw [turn_strip]; exact hxs)
  have hone := Tr.one x
  have HA3 := Lib.hid (HA.out.below hb3 HA.out.lt)
  have HB3 := Lib.hid (HB.out.trans (hb3.mono HB.out.size))
  have HXi := Lib.hid (hxi.next (boxW_next w3 x))
  clear hb3 hA hxi hxf hxs
  have HAb := Lib.hid (HA3.out.below (boxW_next w3 x) HA3.out.lt)
  have HBb := Lib.hid (boxW_below HB3.out x)
  have HX := Lib.hid (boxW_at w3 x)
  go_wp2_with (first
    | ((with_reducible show wpList _ _ _ ({ dst := none, op := .store 27 _ _, type := _, pos := _, after := _, guard := _ } :: _) _ _); refine wpList_store_row rfl 27 _ _ rfl w3.heap.size x.cs.toArray rfl rfl 27 Tr.blank.cs.toArray (At.new _ _ _) (by kernel_rfl) rfl hone ?_; change Exit.then _ _ _ _ (boxW w3 x))
    | ((with_reducible show wpList _ _ _ ({ dst := _, op := .load 27 _, type := _, pos := _, after := _, guard := _ } :: _) _ _); refine wpList_load_row rfl 27 _ rfl w.heap.size rfl 27 t.cs.toArray (0, 0) _ HAb.out Try.underlying27 rfl (by kernel_rfl) ?_) | fail)
  refine (refFormed k t _ (HI.out.next HBb.out)).mono ?_
  rintro e w5 ⟨rfl, hb5⟩
  rw [HF.out]
  have hX := HX.out.below hb5 HX.out.lt
  have hT := HAb.out.below hb5 HAb.out.lt
  have hB := HBb.out.trans (hb5.mono HBb.out.size)
  have hxi := HXi.out.next hb5
  have hti := HI.out.next hB
  generalize w3.heap.size = gx at hX ⊢
  clear hb5 HX HAb HBb HXi HA3 HB3 HA HB
  go_wp2_with fail
  refine wp_region_noPanic ?_
  refine wp_region_held_drew (S := (fun w' => w'.rangeAt gx 0 x.cs ∧ w'.rangeAt w.heap.size 0 t.cs)) (by kernel_rfl) (by exact ⟨at_range hX, at_range hT⟩) (fun hHeld => ?_)
  refine wpAnyH_take (i := 0) (oi := ⟨some 38, _, _, _, _, _⟩) (v := _) rfl (by kernel_rfl) (by kernel_rfl) (by kernel_rfl) (fun _ _ _ h => h) (yieldsIf_load_mid (by rfl) 27 _ rfl gx 0 rfl x.cs _ (fun _ h => h.1) Try.underlying27 rfl (by rw [Tr.cs_length]; kernel_rfl)) (by exact hHeld) ?_
  simp only [Act.put, List.setIfInBounds_toArray, List.set_cons_zero, List.set_cons_succ]
  refine wpAnyH_take (i := 1) (oi := ⟨some 39, _, _, _, _, _⟩) (v := _) rfl (by kernel_rfl) (by kernel_rfl) (by kernel_rfl) (fun _ _ _ h => h) (yieldsIf_load_mid (by rfl) 27 _ rfl w.heap.size 0 rfl t.cs _ (fun _ h => h.2) Try.underlying27 rfl (by rw [Tr.cs_length]; kernel_rfl)) (by exact hHeld) ?_
  simp only [Act.put, List.setIfInBounds_toArray, List.set_cons_zero, List.set_cons_succ]
  refine wpAnyH_ready (rs := [2]) (by kernel_rfl) (by simp) ?_
  refine AllReadyH.cons (o := ⟨some 40, _, _, _, _, _⟩) rfl (fun K hK => ?_) AllReadyH.nil
  go_simp
  ((with_reducible refine (HRt.out _ hti.drew).mono ?_))
  rintro e w6 ⟨y, rfl, hyi, hyf, hys, hb6⟩
  have HYs := Lib.hid hys
  have hX := hX.step hb6 rfl
  have hT := hT.step hb6 rfl
  have hxi := hxi.step hb6 rfl
  have hti := hti.step hb6 rfl
  have hB := below_step hB hb6 rfl rfl rfl rfl
  clear hb6 hyf hys
  dsimp only
  refine hK.out _ _ ?_ (fun hHeld => ?_)
  · exact ⟨at_range hX, at_range hT⟩
  clear hK K
  try simp only [Act.put, List.setIfInBounds_toArray, List.set_cons_zero, List.set_cons_succ]
  refine wpAnyH_ready (rs := [3]) (by kernel_rfl) (by simp) ?_
  refine AllReadyH.cons (o := ⟨some 41, _, _, _, _, _⟩) rfl (fun K hK => ?_) AllReadyH.nil
  go_simp
  ((with_reducible refine (refSame k 41 x y _ (by omega) (by omega) hxi hyi).mono ?_))
  rintro e w7 ⟨rfl, hb7⟩
  rw [same_turn hk0 hxi HXs.out HYs.out HD40.out]
  have hX := hX.step hb7 rfl
  have hT := hT.step hb7 rfl
  have hxi := hxi.step hb7 rfl
  have hti := hti.step hb7 rfl
  have hB := below_step hB hb7 rfl rfl rfl rfl
  clear hb7 hyi
  dsimp only
  refine hK.out _ _ ?_ (fun hHeld => ?_)
  · exact ⟨at_range hX, at_range hT⟩
  clear hK K
  try simp only [Act.put, List.setIfInBounds_toArray, List.set_cons_zero, List.set_cons_succ]
  refine wpAnyH_take (i := 4) (oi := ⟨some 42, _, _, _, _, _⟩) (v := ?_) rfl (by kernel_rfl) (by kernel_rfl) (by kernel_rfl) (fun _ _ _ h => h) (Or.inl ⟨by rfl, ?_⟩) (by exact hHeld) ?_
  rotate_left
  · (intro w hSw; (try dsimp only at hSw); go_simp; try (with_reducible rfl))
  simp only [Act.put, List.setIfInBounds_toArray, List.set_cons_zero, List.set_cons_succ]
  refine wpAnyH_take (i := 5) (oi := ⟨some 43, _, _, _, _, _⟩) (v := ?_) rfl (by kernel_rfl) (by kernel_rfl) (by kernel_rfl) (fun _ _ _ h => h) (Or.inl ⟨by rfl, ?_⟩) (by exact hHeld) ?_
  rotate_left
  · (intro w hSw; (try dsimp only at hSw); go_simp; try (with_reducible rfl))
  simp only [Act.put, List.setIfInBounds_toArray, List.set_cons_zero, List.set_cons_succ]
  refine wpAnyH_take (i := 6) (oi := ⟨some 44, _, _, _, _, _⟩) (v := _) rfl (by kernel_rfl) (by kernel_rfl) (by kernel_rfl) (fun _ _ _ h => h) (yieldsIf_load_mid (by rfl) 27 _ rfl gx 0 rfl x.cs _ (fun _ h => h.1) Try.underlying27 rfl (by rw [Tr.cs_length]; kernel_rfl)) (by exact hHeld) ?_
  simp only [Act.put, List.setIfInBounds_toArray, List.set_cons_zero, List.set_cons_succ]
  refine wpAnyH_take (i := 8) (oi := ⟨some 46, _, _, _, _, _⟩) (v := _) rfl (by kernel_rfl) (by kernel_rfl) (by kernel_rfl) (fun _ _ _ h => h) (yieldsIf_load_mid (by rfl) 27 _ rfl w.heap.size 0 rfl t.cs _ (fun _ h => h.2) Try.underlying27 rfl (by rw [Tr.cs_length]; kernel_rfl)) (by exact hHeld) ?_
  simp only [Act.put, List.setIfInBounds_toArray, List.set_cons_zero, List.set_cons_succ]
  refine wpAnyH_ready (rs := [7]) (by kernel_rfl) (by simp) ?_
  refine AllReadyH.cons (o := ⟨some 45, _, _, _, _, _⟩) rfl (fun K hK => ?_) AllReadyH.nil
  go_simp
  ((with_reducible refine (treeTurnYes k x _ hxi (slim_strip k x _ HXs.out (slim_turn k t HSl.out)) (formed_turn HXs.out HF.out)).mono ?_))
  rintro e w8 ⟨z, rfl, hzi, hzf, hzs, hb8⟩
  have HZs := Lib.hid hzs
  have hX := hX.step hb8 rfl
  have hT := hT.step hb8 rfl
  have hxi := hxi.step hb8 rfl
  have hti := hti.step hb8 rfl
  have hB := below_step hB hb8 rfl rfl rfl rfl
  clear hb8 hzf hzs
  dsimp only
  refine hK.out _ _ ?_ (fun hHeld => ?_)
  · exact ⟨at_range hX, at_range hT⟩
  clear hK K
  try simp only [Act.put, List.setIfInBounds_toArray, List.set_cons_zero, List.set_cons_succ]
  refine wpAnyH_ready (rs := [9]) (by kernel_rfl) (by simp) ?_
  refine AllReadyH.cons (o := ⟨some 47, _, _, _, _, _⟩) rfl (fun K hK => ?_) AllReadyH.nil
  go_simp
  ((with_reducible refine (refSame k 41 z t _ (by omega) (by omega) hzi hti).mono ?_))
  rintro e w9 ⟨rfl, hb9⟩
  rw [same_twice hk0 hzi HXs.out HZs.out HD40.out]
  have hX := hX.step hb9 rfl
  have hT := hT.step hb9 rfl
  have hxi := hxi.step hb9 rfl
  have hti := hti.step hb9 rfl
  have hB := below_step hB hb9 rfl rfl rfl rfl
  clear hb9 hzi
  dsimp only
  refine hK.out _ _ ?_ (fun hHeld => ?_)
  · exact ⟨at_range hX, at_range hT⟩
  clear hK K
  try simp only [Act.put, List.setIfInBounds_toArray, List.set_cons_zero, List.set_cons_succ]
  refine wpAnyH_take (i := 10) (oi := ⟨some 48, _, _, _, _, _⟩) (v := ?_) rfl (by kernel_rfl) (by kernel_rfl) (by kernel_rfl) (fun _ _ _ h => h) (Or.inl ⟨by rfl, ?_⟩) (by exact hHeld) ?_
  rotate_left
  · (intro w hSw; (try dsimp only at hSw); go_simp; try (with_reducible rfl))
  simp only [Act.put, List.setIfInBounds_toArray, List.set_cons_zero, List.set_cons_succ]
  refine wpAnyH_take (i := 11) (oi := ⟨some 49, _, _, _, _, _⟩) (v := ?_) rfl (by kernel_rfl) (by kernel_rfl) (by kernel_rfl) (fun _ _ _ h => h) (Or.inl ⟨by rfl, ?_⟩) (by exact hHeld) ?_
  rotate_left
  · (intro w hSw; (try dsimp only at hSw); go_simp; try (with_reducible rfl))
  simp only [Act.put, List.setIfInBounds_toArray, List.set_cons_zero, List.set_cons_succ]
  refine wpAnyH_done (by kernel_rfl) ?_ _
  refine NoPanic.normal ?_
  go_wp2_with fail
  have hby := HBy.out.below hB
  refine wp_region_noPanic ?_
  refine wp_region_held_drew (S := (fun w' => w'.rangeAt gx 0 x.cs ∧ w'.rangeAt w.heap.size 0 t.cs)) (by kernel_rfl) (by exact ⟨at_range hX, at_range hT⟩) (fun hHeld => ?_)
  refine wpAnyH_take (i := 0) (oi := ⟨some 50, _, _, _, _, _⟩) (v := _) rfl (by kernel_rfl) (by kernel_rfl) (by kernel_rfl) (fun _ _ _ h => h) (yieldsIf_load_mid (by rfl) 27 _ rfl w.heap.size 0 rfl t.cs _ (fun _ h => h.2) Try.underlying27 rfl (by rw [Tr.cs_length]; kernel_rfl)) (by exact hHeld) ?_
  simp only [Act.put, List.setIfInBounds_toArray, List.set_cons_zero, List.set_cons_succ]
  refine wpAnyH_take (i := 1) (oi := ⟨some 51, _, _, _, _, _⟩) (v := ?_) rfl (by kernel_rfl) (by kernel_rfl) (by kernel_rfl) (fun _ _ _ h => h) (Or.inl ⟨by rfl, ?_⟩) (by exact hHeld) ?_
  rotate_left
  · (intro w hSw; (try dsimp only at hSw); go_simp; try (with_reducible rfl))
  simp only [Act.put, List.setIfInBounds_toArray, List.set_cons_zero, List.set_cons_succ]
  refine wpAnyH_take (i := 3) (oi := ⟨some 53, _, _, _, _, _⟩) (v := _) rfl (by kernel_rfl) (by kernel_rfl) (by kernel_rfl) (fun _ _ _ h => h) (yieldsIf_load_mid (by rfl) 27 _ rfl gx 0 rfl x.cs _ (fun _ h => h.1) Try.underlying27 rfl (by rw [Tr.cs_length]; kernel_rfl)) (by exact hHeld) ?_
  simp only [Act.put, List.setIfInBounds_toArray, List.set_cons_zero, List.set_cons_succ]
  refine wpAnyH_take (i := 4) (oi := ⟨some 54, _, _, _, _, _⟩) (v := ?_) rfl (by kernel_rfl) (by kernel_rfl) (by kernel_rfl) (fun _ _ _ h => h) (Or.inl ⟨by rfl, ?_⟩) (by exact hHeld) ?_
  rotate_left
  · (intro w hSw; (try dsimp only at hSw); go_simp; try (with_reducible rfl))
  simp only [Act.put, List.setIfInBounds_toArray, List.set_cons_zero, List.set_cons_succ]
  refine wpAnyH_ready (rs := [2]) (by kernel_rfl) (by simp) ?_
  refine AllReadyH.cons (o := ⟨some 52, _, _, _, _, _⟩) rfl (fun K hK => ?_) AllReadyH.nil
  go_simp
  ((with_reducible refine (HSp.out _ hti.drew hby.drew).mono ?_))
  rintro e wa ⟨ga, ra, rfl, hta, hba⟩
  have hX := hX.step hba rfl
  have hT := hT.step hba rfl
  have hxi := hxi.step hba rfl
  have hti := hti.step hba rfl
  have hB := below_step hB hba rfl rfl rfl rfl
  have hby := hby.drew.below hba
  clear hba
  dsimp only
  refine hK.out _ _ ?_ (fun hHeld => ?_)
  · exact ⟨at_range hX, at_range hT⟩
  clear hK K
  try simp only [Act.put, List.setIfInBounds_toArray, List.set_cons_zero, List.set_cons_succ]
  refine wpAnyH_ready (rs := [5]) (by kernel_rfl) (by simp) ?_
  refine AllReadyH.cons (o := ⟨some 55, _, _, _, _, _⟩) rfl (fun K hK => ?_) AllReadyH.nil
  go_simp
  ((with_reducible refine (HRv.out _ hby).mono ?_))
  rintro e wr ⟨gr, rfl, hrv, hbr⟩
  have hX := hX.step hbr rfl
  have hT := hT.step hbr rfl
  have hxi := hxi.step hbr rfl
  have hti := hti.step hbr rfl
  have hB := below_step hB hbr rfl rfl rfl rfl
  have hta := hta.step hbr rfl
  clear hbr
  dsimp only
  refine hK.out _ _ ?_ (fun hHeld => ?_)
  · exact ⟨at_range hX, at_range hT⟩
  clear hK K
  try simp only [Act.put, List.setIfInBounds_toArray, List.set_cons_zero, List.set_cons_succ]
  refine wpAnyH_ready (rs := [6]) (by kernel_rfl) (by simp) ?_
  refine AllReadyH.cons (o := ⟨some 56, _, _, _, _, _⟩) rfl (fun K hK => ?_) AllReadyH.nil
  go_simp
  ((with_reducible refine (HSx.out _ gr hxi hrv).mono ?_))
  rintro e wb ⟨gb, rb, rfl, htb, hbb⟩
  have hX := hX.step hbb rfl
  have hT := hT.step hbb rfl
  have hxi := hxi.step hbb rfl
  have hti := hti.step hbb rfl
  have hB := below_step hB hbb rfl rfl rfl rfl
  have hta := hta.step hbb rfl
  clear hbb hrv
  dsimp only
  refine hK.out _ _ ?_ (fun hHeld => ?_)
  · exact ⟨at_range hX, at_range hT⟩
  clear hK K
  try simp only [Act.put, List.setIfInBounds_toArray, List.set_cons_zero, List.set_cons_succ]
  refine wpAnyH_take (i := 7) (oi := ⟨some 6, _, _, _, _, _⟩) (v := ?_) rfl (by kernel_rfl) (by kernel_rfl) (by kernel_rfl) (fun _ _ _ h => h) (Or.inl ⟨by rfl, ?_⟩) (by exact hHeld) ?_
  rotate_left
  · (intro w hSw; (try dsimp only at hSw); go_simp; try (with_reducible rfl))
  simp only [Act.put, List.setIfInBounds_toArray, List.set_cons_zero, List.set_cons_succ]
  refine wpAnyH_take (i := 8) (oi := ⟨some 7, _, _, _, _, _⟩) (v := ?_) rfl (by kernel_rfl) (by kernel_rfl) (by kernel_rfl) (fun _ _ _ h => h) (Or.inl ⟨by rfl, ?_⟩) (by exact hHeld) ?_
  rotate_left
  · (intro w hSw; (try dsimp only at hSw); go_simp; try (with_reducible rfl))
  simp only [Act.put, List.setIfInBounds_toArray, List.set_cons_zero, List.set_cons_succ]
  refine wpAnyH_done (by kernel_rfl) ?_ _
  refine NoPanic.normal ?_
  go_wp2_with fail
  have HTa := Lib.hid hta
  have HTb := Lib.hid htb
  have HBn := Lib.hid hB
  have HEq : Hid (∀ i j, i ≤ j → j ≤ n → spansS l.reverse k x (n - j) (n - i) = spansS l k t i j) := Lib.hid (fun i j hi hj => turns_at HLen.out HXs.out HFo.out hi hj)
  clear hta htb hB hX hT hxi hti hby
  generalize spansS l k t = Fa at HTa HEq
  generalize spansS l.reverse k x = Fb at HTb HEq
  go_loopw [61] (fun iv wr => ∃ i : Nat, i ≤ N ∧ iv = .int .i64 i ∧ Hid (TabIn wr 41 4 ga N Fa) ∧ Hid (TabIn wr 41 4 gb N Fb) ∧ Hid (Below w.heap.size w wr)) (fun iv _ => N - (intOf iv).toNat)
  case atStart => exact ⟨0, Nat.zero_le _, rfl, Lib.hid HTa.out.tin, Lib.hid HTb.out.tin, HBn⟩
  case round =>
    clear HTa HTb HBn
    obtain ⟨i, hi, rfl, HTa, HTb, HB⟩ := hrel
    by_cases hlt : i < N
    · have hin : (i : Int) < (N : Int) := by omega
      have hi0 : (0 : Int) ≤ (i : Int) := by omega
      have hd1 := dec_t hin
      go_wp2_with fail
      go_loopw [10] (fun jv wr => ∃ j : Nat, (i ≤ j ∧ j ≤ N) ∧ jv = .int .i64 j ∧ Hid (TabIn wr 41 4 ga N Fa) ∧ Hid (TabIn wr 41 4 gb N Fb) ∧ Hid (Below w.heap.size w wr)) (fun jv _ => N - (intOf jv).toNat)
      case atStart => exact ⟨i, ⟨Nat.le_refl _, by omega⟩, rfl, HTa, HTb, HB⟩
      case round =>
        clear HTa HTb HB
        obtain ⟨j, ⟨hj1, hj2⟩, rfl, HTa, HTb, HB⟩ := hrel
        by_cases hltj : j ≤ n
        · have hjn : (j : Int) ≤ (n : Int) := by omega
          have hj0 : (0 : Int) ≤ (j : Int) := by omega
          have hjN : (j : Int) < (N : Int) := by have := HNN.out; omega
          have hjlt : j < N := by omega
          have hdj := dec_t hjn
          obtain ⟨m1, hm1⟩ : ∃ m, m = n - j := ⟨_, rfl⟩
          obtain ⟨m2, hm2⟩ : ∃ m, m = n - i := ⟨_, rfl⟩
          have hnN := HNN.out
          have e1 : IntKind.i64.wrap ((n : Int) - (j : Int)) = (m1 : Int) := by rw [IntKind.wrap_i64]; omega
          have e2 : IntKind.i64.wrap ((n : Int) - (i : Int)) = (m2 : Int) := by rw [IntKind.wrap_i64]; omega
          have b1 : (m1 : Int) < (N : Int) := by omega
          have b2 : (m2 : Int) < (N : Int) := by omega
          have b3 : (0 : Int) ≤ (m1 : Int) := by omega
          have b4 : (0 : Int) ≤ (m2 : Int) := by omega
          have l1 : m1 < N := by omega
          have l2 : m2 < N := by omega
          have he := HEq.out i j hj1 hltj
          rw [← hm1, ← hm2] at he
          obtain ⟨ra', hra⟩ := HTa.out
          obtain ⟨rb', hrb⟩ := HTb.out
          have q1 := hra.cellTop hlt
          have q2 := hra.cellRow hlt hjlt
          have q3 := hrb.cellTop l1
          have q4 := hrb.cellRow l1 l2
          rw [he] at q4
          obtain ⟨v, hv⟩ : ∃ v : Bool, Fa i j = v := ⟨_, rfl⟩
          rw [hv] at q2 q4
          have hvv : (v != v) = false := by cases v <;> rfl
          clear he hv hm1 hm2 hra hrb hnN
          go_wp2_with fail
          go_quiet (fail)
          have HTa2 : Hid (TabIn (wr.drewN nq) 41 4 ga N Fa) := Lib.hid (by obtain ⟨r, hr⟩ := HTa.out; exact ⟨r, hr.same rfl⟩)
          have HTb2 : Hid (TabIn (wr.drewN nq) 41 4 gb N Fb) := Lib.hid (by obtain ⟨r, hr⟩ := HTb.out; exact ⟨r, hr.same rfl⟩)
          have HB2 : Hid (Below w.heap.size w (wr.drewN nq)) := Lib.hid ⟨HB.out.os, HB.out.tape, HB.out.output, HB.out.size, HB.out.block⟩
          clear q1 q2 q3 q4
          go_wp2_with fail
          exact ⟨⟨j + 1, ⟨by omega, by omega⟩, by go_num, HTa2, HTb2, HB2⟩, by simp [intOf]; omega⟩
        · have hjn : ¬ (j : Int) ≤ (n : Int) := by omega
          have hdj := dec_f hjn
          go_wp2_with fail
          exact ⟨⟨i + 1, by omega, by go_num, HTa, HTb, HB⟩, by simp [intOf]; omega⟩
    · obtain rfl : i = N := by omega
      go_wp2_with fail
      go_ret
      exact ⟨rfl, HB.out⟩

theorem lawTurns (k : Nat) (t : Tr) (A : Option Addr) (n c : Nat) (l : List Nat) (w : World) (h : Tr.In w k t) (hb : IsBytes w A n l) :
    Calls Try.prog 5 #[.agg t.cs.toArray, .slice A n c] w fun e w' => e = .returned (.bool true) ∧ Below w.heap.size w w' := by
  by_cases hc : countS k 60 t ≤ 2000
  · by_cases hl : 10 < n
    · exact lawTurnsLong k t A n c l w h hb hc hl
    · cases hf : isFormed k t with
      | false => exact lawTurnsNot k t A n c l w h hb hc hl hf
      | true => exact lawTurnsYes k t A n c l w h hb hc hl hf
  · exact lawTurnsFew k t A n c l w h hb hc

end Go.Proofs.Ytignekgckkdgiaa
