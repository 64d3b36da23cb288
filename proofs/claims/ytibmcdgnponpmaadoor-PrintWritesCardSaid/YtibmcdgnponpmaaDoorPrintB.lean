/- What package print writes of a set. -/
import Derived.Test.YtibmcdgnponpmaaDoorPrintA
import Derived.Test.YtibmcdgnponpmaaDoorRangeText
import Derived.Test.YtibmcdgnponpmaaDoorMa
namespace Go.Proofs.YtibmcdgnponpmaaDoor
open Go.RowKit
set_option linter.unusedSimpArgs false
set_option linter.unusedVariables false

theorem Bd.off {w : World} {b g : Nat} {x : ByteArray} (h : Bd w b x) (hg : w.heap.size ≤ g) : g ≠ b ∧ some g ≠ bufOf w b := by
  have h1 := h.lt
  exact ⟨by omega, fun e => by have := (h.buf g e.symm).2; omega⟩
theorem At.keepB {w w' : World} {b g : Nat} {t : TypeId} {cs : Array Value} (h : At w g t cs) (hk : KeepB b w w') (h1 : g ≠ b) (h2 : some g ≠ bufOf w b) : At w' g t cs := (hk.block g h.lt h1 h2).trans h
theorem Tab.keepB {w w' : World} {b : Nat} {x : ByteArray} (h : Tab w) (hk : KeepB b w w') (hb : Bd w b x) (hg : 0 < b) : Tab w' := fun j hj => by
  have hc := h j hj
  have hl := hk.low (Nat.le_refl b) (Nat.le_of_lt hb.lt) (fun g e => Nat.le_of_lt (hb.buf g e).1)
  exact ((bcell hl).1 _ _ hg).trans hc
theorem PairRow.keepB {w w' : World} {b base : Nat} {e : TypeId} {v : Value} {R : List (Nat × Nat)} (h : PairRow w base e v R) (hk : KeepB b w w') (h1 : b < base) (h2 : ∀ g, base ≤ g → some g ≠ bufOf w b) : PairRow w' base e v R := by
  obtain ⟨a, q⟩ := h
  refine ⟨a, ?_⟩
  rcases q with q | ⟨g, cap, cur, hv, hb, hh, r⟩
  · exact Or.inl q
  · refine Or.inr ⟨g, cap, cur, hv, hb, ?_, r⟩
    have hlt : g < w.heap.size := by
      rcases Nat.lt_or_ge g w.heap.size with q | q
      · exact q
      · rw [Array.getElem?_eq_none q] at hh; cases hh
    exact (hk.block g hlt (by omega) (h2 g hb)).trans hh
theorem KeepB.drewN {b : Nat} {w w' : World} (h : KeepB b w w') (n : Nat) : KeepB b w (w'.drewN n) := ⟨h.os, h.tape, h.output, h.size, h.block, h.buf⟩
theorem Bd.drewN {w : World} {b : Nat} {x : ByteArray} (h : Bd w b x) (n : Nat) : Bd (w.drewN n) b x := h.keep rfl (fun _ _ => rfl)
def pairC (p : Nat × Nat) : Array Value := #[.int .u8 p.1, .int .u8 p.2]
/-- A pair in a new variable. -/
def boxQ (w : World) (p : Nat × Nat) : World := (w.alloc (.cells #[.int .u8 0, .int .u8 0] 61)).setRow w.heap.size (pairC p)
theorem boxQ_at (w : World) (p : Nat × Nat) : At (boxQ w p) w.heap.size 61 (pairC p) := At.row (At.new w 61 #[.int .u8 0, .int .u8 0]) _
theorem boxQ_next (w : World) (p : Nat × Nat) : Below w.heap.size w (boxQ w p) := below_row ((Below.refl _ _).alloc (Nat.le_refl _) _) (Nat.le_refl _) _
theorem pair_range {w : World} {base g cap n : Nat} {e : TypeId} {R : List (Nat × Nat)} (h : PairRow w base e (.slice (some ⟨g, 0, none⟩) n cap) R) {i : Nat} {p : Nat × Nat} (hp : R[i]? = some p) : w.rangeAt g (i * 2) (pairC p).toList := by
  have hc := h.at i p hp
  intro j v hv
  have hj : j < 2 := by have := (List.getElem?_eq_some_iff.1 hv).1; exact this
  match j, hj with
  | 0, _ =>
    have e : Value.int .u8 p.1 = v := by simpa [pairC] using hv
    rw [Nat.add_zero, hc.1, e]
  | 1, _ =>
    have e : Value.int .u8 p.2 = v := by simpa [pairC] using hv
    rw [hc.2, e]
theorem pair_one (p : Nat × Nat) : (pairC p).all (·.oneCell') = true := by simp [pairC, Value.oneCell']

set_option maxRecDepth 100000 in
set_option maxHeartbeats 4000000 in
theorem pSet (b : Nat) (s : St) (hs : s.Ok) (x : ByteArray) (w : World) (h : Bd w b x) (hT : Tab w) (hgb : 0 < b) (hsz : x.size + 3000 ≤ 1000000000) :
    Calls Tryd.prog 24 #[.pointer (some ⟨b, 0, none⟩), .agg #[.int .u64 s.w0, .int .u64 s.w1, .int .u64 s.w2, .int .u64 s.w3]] w (Wrote b x (clsT s) w) := by
  obtain ⟨w0, hw0⟩ : ∃ w0, w0 = w.alloc (.cells #[.int .u64 s.w0, .int .u64 s.w1, .int .u64 s.w2, .int .u64 s.w3] 24) := ⟨_, rfl⟩
  have hb0 : Below w.heap.size w w0 := by rw [hw0]; exact (Below.refl _ _).alloc (Nat.le_refl _) _
  have HBd := Lib.hid (h.next hb0)
  have HT0 := Lib.hid (hT.below hb0)
  have HK0 := Lib.hid (KeepB.of hb0 h.lt)
  have HSet : Hid (SetAt w0 w.heap.size 24 s) := Lib.hid (by rw [hw0]; exact SetAt.new _ _ s)
  have HOff : Hid (w.heap.size ≠ b ∧ some w.heap.size ≠ bufOf w0 b) := Lib.hid (by
    have h1 := h.off (Nat.le_refl w.heap.size)
    have e : bufOf w0 b = bufOf w b := bufOf_same (hb0.block b h.lt)
    rw [e]; exact h1)
  have HLb : Hid (b < w.heap.size) := Lib.hid h.lt
  have HW0 := Lib.hid hw0
  clear h hT hb0 hw0
  go_enter Tryd.func24, Tryd.ntmps24
  go_wp2_with fail
  rw [← HW0.out]
  refine (bWriteByte b x 91 91 rfl _ HBd.out (by omega)).mono ?_
  rintro e w1 ⟨rfl, h1, hk1⟩
  have HB1 := Lib.hid h1
  have HK1 := Lib.hid (HK0.out.trans hk1)
  have HT1 := Lib.hid (HT0.out.keepB hk1 HBd.out hgb)
  have hset1 : SetAt w1 w.heap.size 24 s := At.keepB HSet.out hk1 HOff.out.1 HOff.out.2
  obtain ⟨c0, c1, c2, c3⟩ := hset1.cells
  clear h1 hk1 hset1
  go_wp2_with fail
  refine (setRanges s hs w1 HT1.out).mono ?_
  rintro e w2 ⟨v, R, rfl, hP, hR, hb2⟩
  have hB2 := HB1.out.next hb2
  have HB2 := Lib.hid hB2
  have HK2 := Lib.hid (HK1.out.trans (KeepB.of hb2 HB1.out.lt))
  have HR := Lib.hid hR
  have HRl : Hid (R.length ≤ 256) := Lib.hid (Nat.le_trans (rg_len hR) s.list_len)
  have HP := Lib.hid hP
  have HAway : Hid (∀ g, w1.heap.size ≤ g → some g ≠ bufOf w2 b) := Lib.hid (fun g hg e => by
    rw [bufOf_same (hb2.block b HB1.out.lt)] at e
    have := (HB1.out.buf g e.symm).2; omega)
  have HLt1 : Hid (b < w1.heap.size) := Lib.hid HB1.out.lt
  obtain ⟨A, c, rfl⟩ := hP.len
  clear hP hR hb2 hB2 c0 c1 c2 c3
  go_wp2_with fail
  go_loopw [13] (fun i wr => ∃ (k : Nat), k ≤ R.length ∧ i = .int .i64 k ∧ Hid (Bd wr b (x ++ ⟨#[91]⟩ ++ rgsT (R.take k))) ∧ Hid (KeepB b w2 wr)) (fun i _ => R.length - (intOf i).toNat)
  case atStart => exact ⟨0, Nat.zero_le _, rfl, Lib.hid (by rw [List.take_zero]; show Bd w2 b (x ++ ⟨#[91]⟩ ++ noT); rw [app_no]; exact HB2.out), Lib.hid (KeepB.refl _ _)⟩
  case round =>
    obtain ⟨k, hk, rfl, HX, HKr⟩ := hrel
    by_cases hlt : k < R.length
    · obtain ⟨p, hp⟩ : ∃ p, R[k] = p := ⟨_, rfl⟩
      have hp2 : R[k]? = some p := by rw [List.getElem?_eq_getElem hlt, hp]
      have hPr := PairRow.keepB HP.out HKr.out HLt1.out HAway.out
      obtain ⟨g, c', e0, hg1, hg2, hcc, _⟩ := hPr.form (by omega)
      injection e0 with e1 e2 e3
      subst e1; subst e3
      have HRg := Lib.hid (pair_range hPr hp2)
      obtain ⟨lo, hi⟩ := p
      have hok := HR.out.ok (lo, hi) (by rw [← hp]; exact List.getElem_mem hlt)
      dsimp only at hok
      have HTk : Hid (rgsT (R.take (k + 1)) = rgsT (R.take k) ++ rgT (lo, hi)) := Lib.hid (by rw [List.take_succ_eq_append_getElem hlt, hp, rgsT_snoc])
      have hl9 : (rgsT (R.take k)).size ≤ 9 * 256 := by
        have h1 := rgsT_size (R := R.take k)
        rw [List.length_take] at h1
        have := HRl.out
        omega
      have hxs : (x ++ ⟨#[91]⟩ ++ rgsT (R.take k)).size ≤ x.size + 1 + 9 * 256 := by rw [size_app, size_app]; have : (ByteArray.mk #[91]).size = 1 := rfl; omega
      have HXs := Lib.hid hxs
      have hbq := boxQ_next wr (lo, hi)
      have HX3 := Lib.hid (HX.out.next hbq)
      have HK3 := Lib.hid (HKr.out.trans (KeepB.of hbq HX.out.lt))
      have HQ := Lib.hid (boxQ_at wr (lo, hi))
      have hone := pair_one (lo, hi)
      have hn1 : (0 : Int) ≤ (k : Int) := by omega
      have hn2 : (k : Int) < (R.length : Int) := by omega
      have hR256 := HRl.out
      clear hPr hp hp2 hcc hbq hl9 hxs
      go_wp2_with (first
        | (with_reducible show wpList _ _ _ ({ dst := _, op := .load 61 _, type := _, pos := _, after := _, guard := _ } :: _) _ _
           refine wpList_load_mid rfl 61 _ rfl g (k * 2) rfl (pairC (lo, hi)).toList _ HRg.out Tryd.underlying61 rfl (by kernel_rfl) ?_)
        | (with_reducible show wpList _ _ _ ({ dst := none, op := .store 61 _ _, type := _, pos := _, after := _, guard := _ } :: _) _ _
           refine wpList_store_row rfl 61 _ _ rfl wr.heap.size (pairC (lo, hi)) rfl rfl 61 #[.int .u8 0, .int .u8 0] (At.new _ _ _) (by kernel_rfl) rfl hone ?_
           first | change wpList _ _ _ _ _ (boxQ wr (lo, hi)) | change Exit.then _ _ _ _ (boxQ wr (lo, hi)))
        | fail)
      have q0 : (boxQ wr (lo, hi)).cell? ⟨wr.heap.size, 0, none⟩ = some (.int .u8 lo) := HQ.out.cell 0
      have q1 : (boxQ wr (lo, hi)).cell? ⟨wr.heap.size, 1, none⟩ = some (.int .u8 hi) := HQ.out.cell 1
      go_quiet (fail)
      have HX4 := Lib.hid (HX3.out.drewN nq)
      have HK4 := Lib.hid (HK3.out.drewN nq)
      clear q0 q1
      go_wp2_with fail
      refine (pEscape b lo (by omega) _ _ HX4.out (by have := HXs.out; omega)).mono ?_
      rintro e w5 ⟨rfl, h5, hk5⟩
      have HX5 := Lib.hid h5
      have HK5 := Lib.hid (HK4.out.trans hk5)
      clear h5 hk5
      by_cases hle : lo = hi
      · subst hle
        have hne : ((lo : Int) != (lo : Int)) = false := by simp
        have hne2 : (lo == lo) = true := by simp
        have HX6 : Hid (Bd w5 b (x ++ ⟨#[91]⟩ ++ rgsT (R.take (k + 1)))) := Lib.hid (by
          rw [HTk.out]
          unfold rgT
          rw [if_neg (Nat.lt_irrefl _), app_no, ← app_app]
          exact HX5.out)
        go_wp2_with fail
        exact ⟨⟨k + 1, by omega, by go_num, HX6, HK5⟩, by simp [intOf]; omega⟩
      · have hne : ((lo : Int) != (hi : Int)) = true := by rw [bne_iff_ne]; omega
        have hne2 : (lo == hi) = false := beq_eq_false_iff_ne.2 hle
        have hne3 : (lo != hi) = true := by rw [bne, hne2]; rfl
        go_wp2_with fail
        refine (bWriteByte b _ 45 45 rfl _ HX5.out (by rw [size_app, xT_size]; have := HXs.out; omega)).mono ?_
        rintro e w6 ⟨rfl, h6, hk6⟩
        have HX6 := Lib.hid h6
        have HK6 := Lib.hid (HK5.out.trans hk6)
        clear h6 hk6
        go_wp2_with fail
        refine (pEscape b hi (by omega) _ _ HX6.out (by rw [size_app, size_app, xT_size]; have := HXs.out; have : (ByteArray.mk #[45]).size = 1 := rfl; omega)).mono ?_
        rintro e w7 ⟨rfl, h7, hk7⟩
        have HX7 : Hid (Bd w7 b (x ++ ⟨#[91]⟩ ++ rgsT (R.take (k + 1)))) := Lib.hid (by
          rw [HTk.out]
          unfold rgT
          rw [if_pos (by show lo < hi; omega)]
          have e : dxT hi = ⟨#[45]⟩ ++ xT hi := by unfold dxT xT; rw [← app_app]; rfl
          show Bd w7 b (x ++ ⟨#[91]⟩ ++ (rgsT (R.take k) ++ (xT lo ++ dxT hi)))
          rw [e]
          simp only [app_app] at h7 ⊢
          exact h7)
        have HK7 := Lib.hid (HK6.out.trans hk7)
        clear h7 hk7
        go_wp2_with fail
        exact ⟨⟨k + 1, by omega, by go_num, HX7, HK7⟩, by simp [intOf]; omega⟩
    · obtain rfl : k = R.length := by omega
      have hX := HX.out
      rw [List.take_length] at hX
      have hl9 := rgsT_size (R := R)
      have HX2 := Lib.hid hX
      have HXs : Hid ((x ++ ⟨#[91]⟩ ++ rgsT R).size + 1 ≤ 1000000000) := Lib.hid (by rw [size_app, size_app]; have : (ByteArray.mk #[91]).size = 1 := rfl; have := HRl.out; omega)
      clear hX hl9
      go_wp2_with fail
      refine (bWriteByte b _ 93 93 rfl _ HX2.out HXs.out).mono ?_
      rintro e w8 ⟨rfl, h8, hk8⟩
      have HX8 := Lib.hid h8
      have HK8 := Lib.hid ((HK2.out.trans HKr.out).trans hk8)
      clear h8 hk8
      go_wp2_with fail
      go_end0
      refine ⟨rfl, ?_, HK8.out⟩
      rw [← ranges_text HR.out]
      have := HX8.out
      simp only [app_app] at this ⊢
      exact this

end Go.Proofs.YtibmcdgnponpmaaDoor
