/- macro.Expand. -/
import Derived.Test.YtkbfoelffeocmaaMacExp
import Derived.Test.YtkbfoelffeocmaaMacLean
namespace Go.Proofs.Ytkbfoelffeocmaa
open Go.RowKit
set_option linter.unusedSimpArgs false
set_option linter.unusedVariables false

/-- What Expand answers: what is wrong first; else what the macros stand for, or that they can't stand for anything. -/
def TopPost (ms : List (ByteArray × ByteArray)) (w : World) (e : Ending) (w' : World) : Prop :=
  Below w.heap.size w w' ∧
    (((earlyS ms).2.2 ≠ 0 ∧ e = .returned (.tuple #[.slice none 0 0, .int .i64 (earlyS ms).1, .int .i64 (earlyS ms).2.1, .int .i64 (earlyS ms).2.2])) ∨
     (Good ms ∧
      ((∃ v F, e = .returned (.tuple #[v, .int .i64 0, .int .i64 0, .int .i64 0]) ∧ Sol ms F ∧ (∀ G, Sol ms G → ∀ m ∈ ms, F m.1 = G m.1) ∧ (∀ nm k, massS k (F nm) ≤ 1000) ∧ DefsOut ms w F w' v) ∨
       (∃ (i : Nat) (p q : Int), e = .returned (.tuple #[.slice none 0 0, .int .i64 i, .int .i64 p, .int .i64 q]) ∧ i < ms.length ∧ (q = 2 ∨ q = 8 ∨ q = 9) ∧ ∀ G, ¬ Sol ms G))))
theorem DefsOut.low {ms : List (ByteArray × ByteArray)} {w0 w1 w' : World} {F : ByteArray → Tr} {v : Value} (h : DefsOut ms w1 F w' v) (hs : w0.heap.size ≤ w1.heap.size) : DefsOut ms w0 F w' v := by
  obtain ⟨g, B, ts, h1, h2, h3⟩ := h
  exact ⟨g, B, ts, h1, Nat.le_trans hs h2, h3⟩

set_option maxRecDepth 100000 in
set_option maxHeartbeats 4000000 in
theorem mExpand (ms : List (ByteArray × ByteArray)) (A : Option Addr) (n c : Nat) (w : World) (hm : MacsAt w (.slice A n c) ms) (hc : n ≤ c) (hsh : ShortM ms) (hsm : SmallM ms) :
    Calls Try.prog 6 #[.slice A n c] w (TopPost ms w) := by
  obtain rfl := hm.len
  have hln := hm.choose_spec.choose_spec.2.1
  have z1 := zero_mat
  have HM := Lib.hid hm
  have HSH := Lib.hid hsh
  have HSM := Lib.hid hsm
  obtain ⟨E, hE⟩ : ∃ E, earlyS ms = E := ⟨_, rfl⟩
  have HE := Lib.hid hE
  have HGD := Lib.hid (early_good ms)
  unfold TopPost
  rw [hE]
  rw [hE] at HGD
  clear hm hsh hsm hE
  go_enter Try.func6, Try.ntmps6
  by_cases h20 : 20 < ms.length
  · have h20' : (20 : Int) < (ms.length : Int) := by omega
    have HX : Hid (E = (20, 0, 4)) := Lib.hid (by rw [← HE.out]; unfold earlyS; rw [if_pos h20])
    go_wp2_with fail
    exact bodyPost_ret (v := .tuple #[.slice none 0 0, .int .i64 20, .int .i64 0, .int .i64 4]) (by simp [results, Try.results6, go_sem]) rfl ⟨Below.refl _ _, Or.inl ⟨by rw [HX.out]; decide, by rw [HX.out]⟩⟩
  · have h20' : ¬ (20 : Int) < (ms.length : Int) := by omega
    have HX : Hid ((if (namesF ms ms.length 0).2 ≠ 0 then ((namesF ms ms.length 0).1, 0, (namesF ms ms.length 0).2) else if (textsF ms ms.length 0).2.2 ≠ 0 then textsF ms ms.length 0 else cycT (cycF (clos (mat0 ms) 20) 20 0)) = E) := Lib.hid (by rw [← HE.out]; unfold earlyS; rw [if_neg h20])
    go_wp2_with fail
    refine (mJudge ms A ms.length c w HM.out hc HSH.out).mono ?_
    rintro e w2 ⟨rfl, hb2⟩
    have HB2 := Lib.hid hb2
    obtain ⟨N, hN⟩ : ∃ N, namesF ms ms.length 0 = N := ⟨_, rfl⟩
    have HNM := Lib.hid hN
    rw [hN] at HX
    rw [hN]
    clear hN hb2
    by_cases hn0 : N.2 = 0
    · have HN0 := Lib.hid hn0
      have HX2 : Hid ((if (textsF ms ms.length 0).2.2 ≠ 0 then textsF ms ms.length 0 else cycT (cycF (clos (mat0 ms) 20) 20 0)) = E) := Lib.hid (by have := HX.out; rw [if_neg (show ¬ N.2 ≠ 0 by simp [hn0])] at this; exact this)
      have hnd : (ms.map (·.1)).Nodup := nodup_of (fun j hj => ((namesF_ok ms ms.length 0).1 (by rw [HNM.out]; exact hn0) j (Nat.zero_le _) (by omega)).2)
      have HND := Lib.hid hnd
      rw [hn0]
      clear hn0 hnd
      go_wp2_with fail
      refine (mLeanings ms (by omega) HND.out A ms.length c w2 (HM.out.next HB2.out) HSH.out).mono ?_
      rintro e w3 ⟨M, rfl, hMM, hb3⟩
      have HB3 := Lib.hid (HB2.out.trans (hb3.mono HB2.out.size))
      have HMM := Lib.hid hMM
      obtain ⟨T, hT⟩ : ∃ T, textsF ms ms.length 0 = T := ⟨_, rfl⟩
      rw [hT] at HX2 HMM
      rw [hT]
      have honeM := mCells_one M
      clear hMM hb3 hT
      have HA4 : Hid (At ((w3.alloc (.cells (mCells noneM) 45)).setRow w3.heap.size (mCells M)) w3.heap.size 45 (mCells M)) := Lib.hid (At.row (At.new w3 _ _) _)
      have HB4 : Hid (Below w.heap.size w ((w3.alloc (.cells (mCells noneM) 45)).setRow w3.heap.size (mCells M))) := Lib.hid (HB3.out.trans ((((Below.refl _ _).alloc (Nat.le_refl _) _).trans ((Only.row _ _ _).below (Nat.le_refl _))).mono HB3.out.size))
      obtain ⟨w4, hw4⟩ : ∃ w4, w4 = (w3.alloc (.cells (mCells noneM) 45)).setRow w3.heap.size (mCells M) := ⟨_, rfl⟩
      rw [← hw4] at HA4 HB4
      have HW4 := Lib.hid hw4
      clear hw4
      by_cases ht0 : T.2.2 = 0
      · have HX3 : Hid ((cycT (cycF (clos (mat0 ms) 20) 20 0)) = E) := Lib.hid (by have := HX2.out; rw [if_neg (show ¬ T.2.2 ≠ 0 by simp [ht0])] at this; exact this)
        have hMC := HMM.out ht0
        rw [hMC] at HA4 honeM HW4 ⊢
        rw [ht0]
        clear ht0 hMC
        go_wp2_with (first
          | (with_reducible show wpList _ _ _ ({ dst := none, op := .store _ _ _, type := _, pos := _, after := _, guard := _ } :: _) _ _
             refine wpList_store_row rfl 45 _ _ rfl w3.heap.size (mCells (mat0 ms)) rfl rfl 45 (mCells noneM) (At.new _ _ _) (by rw [mCells_size]; kernel_rfl) (by rw [mCells_size, mCells_size]) honeM ?_
             rw [← HW4.out])
          | (with_reducible show wpList _ _ _ ({ dst := some 39, op := .load _ _, type := _, pos := _, after := _, guard := _ } :: _) _ _
             refine wpList_load_row rfl 45 _ rfl w3.heap.size rfl 45 (mCells (mat0 ms)) (0, 0) _ HA4.out Try.underlying45 rfl (by rw [mCells_size]; kernel_rfl) ?_)
          | fail)
        refine (mCycle (mat0 ms) w4).mono ?_
        rintro e w5 ⟨rfl, hb5⟩
        have HB5 := Lib.hid (HB4.out.trans (hb5.mono HB4.out.size))
        have HA5 := Lib.hid (At.below HA4.out hb5 HA4.out.lt)
        clear hb5
        cases hcy : cycF (clos (mat0 ms) 20) 20 0 with
        | some i =>
          have HX4 : Hid (E = ((i : Int), 0, 7)) := Lib.hid (by rw [← HX3.out, hcy]; rfl)
          clear hcy
          unfold cycRes
          go_wp2_with fail
          exact bodyPost_ret (v := .tuple #[.slice none 0 0, .int .i64 i, .int .i64 0, .int .i64 7]) (by simp [results, Try.results6, go_sem]) rfl ⟨HB5.out, Or.inl ⟨by rw [HX4.out]; show ¬ (7 : Int) = 0; decide, by rw [HX4.out]⟩⟩
        | none =>
          have HX4 : Hid (E = (0, 0, 0)) := Lib.hid (by rw [← HX3.out, hcy]; rfl)
          have HGood : Hid (Good ms) := Lib.hid (HGD.out.1 (by rw [HX4.out]))
          clear hcy
          unfold cycRes
          go_wp2_with (first
            | (with_reducible show wpList _ _ _ ({ dst := some 46, op := .load _ _, type := _, pos := _, after := _, guard := _ } :: _) _ _
               refine wpList_load_row rfl 45 _ rfl w3.heap.size rfl 45 (mCells (mat0 ms)) (0, 0) _ HA5.out Try.underlying45 rfl (by rw [mCells_size]; kernel_rfl) ?_)
            | fail)
          refine (mExpandIn ms HGood.out A ms.length c w5 (HM.out.next HB5.out) HSH.out HSM.out).mono ?_
          rintro e w6 ⟨hb6, hpp⟩
          have HB6 := Lib.hid (HB5.out.trans (hb6.mono HB5.out.size))
          have hle := HB5.out.size
          clear hb6
          rcases hpp with ⟨v, F, rfl, hs, hu, hms, hd⟩ | ⟨i, p, q, rfl, hi, hq, hno⟩
          · have HP := Lib.hid (show Good ms ∧ Sol ms F ∧ (∀ G, Sol ms G → ∀ m ∈ ms, F m.1 = G m.1) ∧ (∀ nm k, massS k (F nm) ≤ 1000) ∧ DefsOut ms w F w6 v from ⟨HGood.out, hs, hu, hms, hd.low hle⟩)
            clear hs hu hms hd hle
            go_wp2_with fail
            exact bodyPost_ret (v := .tuple #[v, .int .i64 0, .int .i64 0, .int .i64 0]) (by simp [results, Try.results6, go_sem]) rfl ⟨HB6.out, Or.inr ⟨HP.out.1, Or.inl ⟨v, F, rfl, HP.out.2⟩⟩⟩
          · have HP := Lib.hid (show Good ms ∧ i < ms.length ∧ (q = 2 ∨ q = 8 ∨ q = 9) ∧ (∀ G, ¬ Sol ms G) from ⟨HGood.out, hi, hq, hno⟩)
            clear hi hq hno hle
            go_wp2_with fail
            exact bodyPost_ret (v := .tuple #[.slice none 0 0, .int .i64 i, .int .i64 p, .int .i64 q]) (by simp [results, Try.results6, go_sem]) rfl ⟨HB6.out, Or.inr ⟨HP.out.1, Or.inr ⟨i, p, q, rfl, HP.out.2⟩⟩⟩
      · have htb := (int_ne ht0).2
        have HX3 : Hid (T = E ∧ ¬ E.2.2 = 0) := Lib.hid (by
          have := HX2.out
          rw [if_pos ht0] at this
          exact ⟨this, by rw [← this]; exact ht0⟩)
        clear ht0
        go_wp2_with (first
          | (with_reducible show wpList _ _ _ ({ dst := none, op := .store _ _ _, type := _, pos := _, after := _, guard := _ } :: _) _ _
             refine wpList_store_row rfl 45 _ _ rfl w3.heap.size (mCells M) rfl rfl 45 (mCells noneM) (At.new _ _ _) (by rw [mCells_size]; kernel_rfl) (by rw [mCells_size, mCells_size]) honeM ?_
             rw [← HW4.out])
          | fail)
        exact bodyPost_ret (v := .tuple #[.slice none 0 0, .int .i64 T.1, .int .i64 T.2.1, .int .i64 T.2.2]) (by simp [results, Try.results6, go_sem]) rfl ⟨HB4.out, Or.inl ⟨HX3.out.2, by rw [← HX3.out.1]⟩⟩
    · have hnb := (int_ne hn0).2
      have HX2 : Hid ((N.1, 0, N.2) = E ∧ ¬ E.2.2 = 0) := Lib.hid (by
        have := HX.out
        rw [if_pos hn0] at this
        exact ⟨this, by rw [← this]; exact hn0⟩)
      clear hn0
      go_wp2_with fail
      exact bodyPost_ret (v := .tuple #[.slice none 0 0, .int .i64 N.1, .int .i64 0, .int .i64 N.2]) (by simp [results, Try.results6, go_sem]) rfl ⟨HB2.out, Or.inl ⟨HX2.out.2, by rw [← HX2.out.1]⟩⟩

end Go.Proofs.Ytkbfoelffeocmaa
