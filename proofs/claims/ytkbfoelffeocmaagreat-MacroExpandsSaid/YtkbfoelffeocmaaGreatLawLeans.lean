/- bolterlaw07.leans, cyclic: which lean on which, which on themselves. -/
import Derived.Test.YtkbfoelffeocmaaGreatMacTop
namespace Go.Proofs.YtkbfoelffeocmaaGreat
open Go.RowKit
set_option linter.unusedSimpArgs false
set_option linter.unusedVariables false

theorem below_drewN {B : Nat} {a w : World} (h : Below B a w) (n : Nat) : Below B a (w.drewN n) := ⟨h.os, h.tape, h.output, h.size, h.block⟩
theorem hasN_take_succ {l : List (Wd × Nat)} {k : Nat} (h : k < l.length) (nm : ByteArray) : hasN (l.take (k + 1)) nm = (hasN (l.take k) nm || (decide (l[k].1.kind = 11) && decide (l[k].1.name = nm))) := by
  rw [take_snoc h, hasN_snoc]
theorem hasN_in {l : List (Wd × Nat)} {k : Nat} (h : k < l.length) (nm : ByteArray) (h1 : l[k].1.kind = 11) (h2 : l[k].1.name = nm) : hasN l nm = true := hasN_iff.2 ⟨l[k], List.getElem_mem h, h1, h2⟩

set_option maxRecDepth 100000 in
set_option maxHeartbeats 4000000 in
theorem lawLeans (ms : List (ByteArray × ByteArray)) (i k : Nat) (hi : i < ms.length) (hk : k < ms.length) (A : Option Addr) (n c : Nat) (w : World) (hm : MacsAt w (.slice A n c) ms) (hsh : ShortM ms) :
    Calls Tryz.prog 29 #[.slice A n c, .int .i64 i, .int .i64 k] w fun e w' => e = .returned (.bool (hasN (wordsS (atM ms i).2).1 (atM ms k).1)) ∧ Below w.heap.size w w' := by
  obtain rfl := hm.len
  have hln := hm.choose_spec.choose_spec.2.1
  have hiz : (0 : Int) ≤ (i : Int) := by omega
  have hin : (i : Int) < (ms.length : Int) := by omega
  have hkz : (0 : Int) ≤ (k : Int) := by omega
  have hkn : (k : Int) < (ms.length : Int) := by omega
  have HM := Lib.hid hm
  obtain ⟨A', cap, e1, _, h3⟩ := id hm
  injection e1 with e1 _ e3
  subst e1
  subst e3
  obtain ⟨b, off, rfl, hb, hr⟩ := h3 (by omega)
  have c1 : w.cell? ⟨b, off + i * 2 + 1, none⟩ = some (.string (atM ms i).2) := hr i hi 1 _ rfl
  have c0 : w.cell? ⟨b, off + k * 2, none⟩ = some (.string (atM ms k).1) := hr k hk 0 _ rfl
  have HC := Lib.hid c0
  have HBL := Lib.hid hb
  have HS := Lib.hid (hsh i hi).2
  generalize atM ms i = m at c1 HS
  generalize atM ms k = m2 at c0 HC
  clear hm hsh h3 hr hb c0
  go_enter Tryz.func29, Tryz.ntmps29
  go_wp2_with fail
  refine (lexWords m.2 HS.out w).mono ?_
  rintro e w2 ⟨v, l, p, q, hwd, rfl, hwds, hb2⟩
  have HB2 := Lib.hid hb2
  have HWD := Lib.hid (show (wordsS m.2).1 = l by rw [hwd])
  have HWE : Hid (q ≠ 0 → l = []) := Lib.hid (fun hq => by
    unfold wordsS at hwd
    split at hwd
    · injection hwd with h _; exact h.symm
    · split at hwd
      · injection hwd with h _; exact h.symm
      · injection hwd with _ h; injection h with _ h; exact absurd h.symm hq)
  have HWS := Lib.hid hwds
  obtain ⟨AW, capW, rfl⟩ := hwds.len
  have HIN := Lib.hid (wds_in HWS.out (g := w2.heap.size) (fun b hb => (World.ownsRow.lt HWS.out b hb).2))
  have HL20 : Hid (l.length ≤ 20000) := Lib.hid (by have := (words_at m.2).1; rw [HWD.out] at this; exact Nat.le_trans this HS.out)
  have hl20 : (l.length : Int) ≤ 20000 := by have := HL20.out; omega
  have cN : w2.cell? ⟨b, off + k * 2, none⟩ = some (.string m2.1) := by rw [World.cell?_of_block (w := w) (hb2.block b HBL.out)]; exact HC.out
  clear hwd hwds hb2 c1
  go_wp2_with fail
  go_loopw [23] (fun j wr => ∃ t : Nat, t ≤ l.length ∧ j = .int .i64 t ∧ Hid (hasN (l.take t) m2.1 = false) ∧ Hid (∃ nq, wr = w2.drewN nq)) (fun j _ => l.length - (intOf j).toNat)
  case atStart => exact ⟨0, Nat.zero_le _, rfl, Lib.hid (by simp [hasN]), Lib.hid ⟨0, rfl⟩⟩
  case round =>
    obtain ⟨t, ht, rfl, HH, HE⟩ := hrel
    obtain ⟨nq, rfl⟩ := HE.out
    by_cases htl : t < l.length
    · have htz : (0 : Int) ≤ (t : Int) := by omega
      have htn : (t : Int) < (l.length : Int) := by omega
      have hq0 : q = 0 := by
        by_cases hq : q = 0
        · exact hq
        · have := HWE.out hq; rw [this] at htl; exact absurd htl (Nat.not_lt_zero _)
      subst hq0
      obtain ⟨AW', capW', e1, _, h3⟩ := HIN.out
      injection e1 with e1 _ e3
      subst e1
      subst e3
      obtain ⟨bw, ow, rfl, hbw, hrw⟩ := h3 (by omega)
      have hrk := hrw t htl
      have HS2 := Lib.hid (hasN_take_succ htl m2.1)
      have HIN2 := Lib.hid (hasN_in htl m2.1)
      generalize l[t] = x at hrk HS2 HIN2
      have qk : w2.cell? ⟨bw, ow + t * 9, none⟩ = some (.int .i64 x.1.kind) := hrk 0 _ rfl
      have qn : w2.cell? ⟨bw, ow + t * 9 + 6, none⟩ = some (.string x.1.name) := hrk 6 _ rfl
      clear hrk hrw h3 hbw
      by_cases hk11 : x.1.kind = 11
      · have hkb := (int_eq hk11).1
        have HK := Lib.hid hk11
        clear hk11
        by_cases hnm : x.1.name = m2.1
        · have hnb := str_eq hnm
          have HR := Lib.hid (HIN2.out HK.out hnm)
          clear hnm
          go_wp2_with fail
          go_quiet (fail)
          go_wp2_with fail
          go_ret
          exact ⟨by rw [HWD.out, HR.out]; rfl, by first | exact below_drewN HB2.out _ | exact below_drewN (below_drewN HB2.out _) _⟩
        · have hnb := str_ne hnm
          have HR : Hid (hasN (l.take (t + 1)) m2.1 = false) := Lib.hid (by rw [HS2.out, HH.out, decide_eq_false hnm]; simp)
          clear hnm
          go_wp2_with fail
          go_quiet (fail)
          go_wp2_with fail
          exact ⟨⟨t + 1, by omega, by go_num, HR, Lib.hid ⟨_, rfl⟩⟩, by simp [intOf]; omega⟩
      · have hkb := (int_ne hk11).1
        have HR : Hid (hasN (l.take (t + 1)) m2.1 = false) := Lib.hid (by rw [HS2.out, HH.out, decide_eq_false hk11]; simp)
        clear hk11 qn
        go_wp2_with fail
        go_quiet (fail)
        go_wp2_with fail
        exact ⟨⟨t + 1, by omega, by go_num, HR, Lib.hid ⟨_, rfl⟩⟩, by simp [intOf]; omega⟩
    · obtain rfl : t = l.length := by omega
      have HR : Hid (hasN l m2.1 = false) := Lib.hid (by have := HH.out; rwa [List.take_length] at this)
      go_wp2_with fail
      go_ret
      exact ⟨by rw [HWD.out, HR.out]; rfl, by first | exact below_drewN HB2.out _ | exact below_drewN (below_drewN HB2.out _) _⟩

end Go.Proofs.YtkbfoelffeocmaaGreat
