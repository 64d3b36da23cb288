/- What the program's member answers: the bytes of what stands at a text's begin, within a class. -/
import Derived.Test.YtdcldhkpmihahaaLexB
import Derived.Test.YtdcldhkpmihahaaSub
import Derived.Test.YtdcldhkpmihahaaSetOf
import Derived.Test.YtdcldhkpmihahaaRange
import Derived.Test.YtdcldhkpmihahaaUnion
import Derived.Test.YtdcldhkpmihahaaTextG
namespace Go.Proofs.Ytdcldhkpmihahaa
open Go.RowKit
set_option linter.unusedSimpArgs false
set_option linter.unusedVariables false

theorem setOf1 (b : Nat) (hb : b < 256) (W : World) (g : Nat) (h : At W g 5 #[.int .u8 b]) :
    Calls Try.prog 14 #[.slice (some ⟨g, 0, none⟩) 1 1] W fun e w' => e = .returned (.agg #[.int .u64 (St.zero.put b).w0, .int .u64 (St.zero.put b).w1, .int .u64 (St.zero.put b).w2, .int .u64 (St.zero.put b).w3]) ∧ Below W.heap.size W w' :=
  setOf [b] _ 1 1 W ⟨rfl, by omega, by intro k hk; simp at hk; subst hk; exact hb, fun _ => ⟨g, 0, rfl, h.lt, by intro k hk; simp at hk; subst hk; exact h.cell 0⟩⟩
theorem lexSingleV (t : ByteArray) (hs : t.size ≤ 20000) (a n : Nat) (h : charS t 0 ownC = ((a : Int), (n : Int))) (w : World) :
    Calls Try.prog 43 #[.string t] w fun e w' => e = .returned (.tuple #[.int .u8 a, .int .i64 n]) ∧ ∃ n, w' = w.drewN n := by
  have := lexSingle t hs w
  rw [h] at this
  exact this
/-- The bytes of what stands at the begin, and how many bytes it takes. -/
def memS (t : ByteArray) : St × Int :=
  if (charS t 0 ownC).2 = 0 then (emptyC, 0)
  else if (charS t 0 ownC).2.toNat < t.size ∧ bt t (charS t 0 ownC).2.toNat = 45 then
    (if (charS t ((charS t 0 ownC).2.toNat + 1) ownC).2 = 0 ∨ (charS t ((charS t 0 ownC).2.toNat + 1) ownC).1 < (charS t 0 ownC).1 then (emptyC, 0)
     else (St.run (charS t 0 ownC).1.toNat ((charS t ((charS t 0 ownC).2.toNat + 1) ownC).1.toNat + 1 - (charS t 0 ownC).1.toNat), (charS t 0 ownC).2 + 1 + (charS t ((charS t 0 ownC).2.toNat + 1) ownC).2))
  else (St.zero.put (charS t 0 ownC).1.toNat, (charS t 0 ownC).2)
theorem mem_none {t : ByteArray} {a : Int} (ha : charS t 0 ownC = (a, 0)) : memS t = (emptyC, 0) := by unfold memS; rw [ha, if_pos rfl]
theorem mem_one {t : ByteArray} {a n : Nat} (ha : charS t 0 ownC = ((a : Int), (n : Int))) (hn : 0 < n) (hd : ¬ (n < t.size ∧ bt t n = 45)) : memS t = (St.zero.put a, (n : Int)) := by
  unfold memS; rw [ha]; dsimp only; rw [if_neg (by omega), Int.toNat_natCast, Int.toNat_natCast, if_neg hd]
theorem mem_bad {t : ByteArray} {a n : Nat} {b m : Int} (ha : charS t 0 ownC = ((a : Int), (n : Int))) (hn : 0 < n) (hd : n < t.size ∧ bt t n = 45) (hb : charS t (n + 1) ownC = (b, m)) (e : m = 0 ∨ b < a) : memS t = (emptyC, 0) := by
  unfold memS; rw [ha]; dsimp only; rw [if_neg (by omega), Int.toNat_natCast, if_pos hd, hb, if_pos e]
theorem mem_two {t : ByteArray} {a n b m : Nat} (ha : charS t 0 ownC = ((a : Int), (n : Int))) (hn : 0 < n) (hd : n < t.size ∧ bt t n = 45) (hb : charS t (n + 1) ownC = ((b : Int), (m : Int))) (hm : 0 < m) (hab : a ≤ b) :
    memS t = (St.run a (b + 1 - a), (n : Int) + 1 + m) := by
  unfold memS; rw [ha]; dsimp only; rw [if_neg (by omega), Int.toNat_natCast, Int.toNat_natCast, if_pos hd, hb]; dsimp only; rw [if_neg (by omega), Int.toNat_natCast]
theorem pre_one (t : ByteArray) (i : Nat) (a : UInt8) : preS t i [a] = decide (i < t.size ∧ bt t i = a.toNat) := by unfold preS; simp [preS]

set_option maxRecDepth 100000 in
set_option maxHeartbeats 4000000 in
theorem lexMember (t : ByteArray) (hs : t.size ≤ 20000) (w : World) :
    Calls Try.prog 30 #[.string t] w fun e w' => e = .returned (.tuple #[.agg (clsWords (memS t).1), .int .i64 (memS t).2]) ∧ Below w.heap.size w w' := by
  obtain ⟨a, n, ha, hal, hnl⟩ := char_nat t 0 ownC
  have HC := Lib.hid ha
  by_cases hn0 : n = 0
  · subst hn0
    have HV : Hid (memS t = (emptyC, 0)) := Lib.hid (mem_none HC.out)
    clear ha
    go_enter Try.func30, Try.ntmps30
    go_wp2_with fail
    refine (lexSingleV t hs a 0 HC.out _).mono ?_
    rintro e w1 ⟨rfl, q, rfl⟩
    go_wp2_with fail
    refine bodyPost_ret (v := .tuple #[.agg (clsWords emptyC), .int .i64 0]) (by simp [results, Try.results30, go_sem, clsWords, emptyC]) rfl ⟨by rw [HV.out], ?_⟩
    exact below_store (below_drew ((Below.refl _ w).alloc (Nat.le_refl _) _) q) (Nat.le_refl _) emptyC
  · have hin : n ≤ t.size := by have := char_in HC.out (by omega); omega
    have m1 : ((n : Int) == 0) = false := beq_eq_false_iff_ne.2 (by omega)
    have m2 : (n == 0) = false := beq_eq_false_iff_ne.2 hn0
    have dz : decide ((n : Int) ≤ (t.size : Int)) = true := txt_t (by omega)
    clear ha
    have hpre : preS (t.extract n t.size) 0 (ByteArray.mk #[45]).data.toList = decide (n < t.size ∧ bt t n = 45) := by
      show preS (t.extract n t.size) 0 [45] = _
      rw [pre_one, drop_size, bt_drop t n 0 hin]
      rw [show n + 0 = n from rfl, show (UInt8.toNat 45) = 45 from rfl]
      rw [decide_eq_decide]; omega
    by_cases hd : n < t.size ∧ bt t n = 45
    · rw [decide_eq_true hd] at hpre
      have HD := Lib.hid hd
      have HP := Lib.hid hpre
      clear hpre
      obtain ⟨b, m, hb, hbl, hml⟩ := char_nat t (n + 1) ownC
      have HB := Lib.hid hb
      have HB2 : Hid (charS (t.extract (n + 1) t.size) 0 ownC = ((b : Int), (m : Int))) := Lib.hid (by rw [char_drop t ownC (n + 1) 0 (by omega)]; exact hb)
      clear hb hd
      have dz2 : decide ((n : Int) + 1 ≤ (t.size : Int)) = true := txt_t (by have := HD.out; omega)
      have hin2 : n + 1 ≤ t.size := by have := HD.out; omega
      have hsz : (t.extract (n + 1) t.size).size ≤ 20000 := by rw [drop_size]; omega
      have hbad : (m : Int) = 0 ∨ (b : Int) < a → Hid (memS t = (emptyC, 0)) := fun h => Lib.hid (mem_bad HC.out (by omega) HD.out HB.out h)
      by_cases hm0 : m = 0
      · have HV := hbad (Or.inl (by omega))
        subst hm0
        go_enter Try.func30, Try.ntmps30
        go_wp2_with fail
        refine (lexSingleV t hs a n HC.out _).mono ?_
        rintro e w1 ⟨rfl, q, rfl⟩
        go_wp2_with fail
        refine (textPrefixV _ _ true HP.out _).mono ?_
        rintro e w1 ⟨rfl, rfl⟩
        go_wp2_with fail
        refine (lexSingleV _ hsz b 0 HB2.out _).mono ?_
        rintro e w1 ⟨rfl, q2, rfl⟩
        go_wp2_with fail
        refine bodyPost_ret (v := .tuple #[.agg (clsWords emptyC), .int .i64 0]) (by simp [results, Try.results30, go_sem, clsWords, emptyC]) rfl ⟨by rw [HV.out], ?_⟩
        exact below_store (below_drew ((Below.refl _ w).alloc (Nat.le_refl _) _) (q + q2)) (Nat.le_refl _) emptyC
      · have v1 : ((m : Int) == 0) = false := beq_eq_false_iff_ne.2 (by omega)
        have v2 : (m == 0) = false := beq_eq_false_iff_ne.2 hm0
        by_cases hab : (b : Int) < (a : Int)
        · have HV := hbad (Or.inr hab)
          have x1 := txt_t hab
          have x2 := txt_t (show b < a by omega)
          clear hbad
          go_enter Try.func30, Try.ntmps30
          go_wp2_with fail
          refine (lexSingleV t hs a n HC.out _).mono ?_
          rintro e w1 ⟨rfl, q, rfl⟩
          go_wp2_with fail
          refine (textPrefixV _ _ true HP.out _).mono ?_
          rintro e w1 ⟨rfl, rfl⟩
          go_wp2_with fail
          refine (lexSingleV _ hsz b m HB2.out _).mono ?_
          rintro e w1 ⟨rfl, q2, rfl⟩
          go_wp2_with fail
          refine bodyPost_ret (v := .tuple #[.agg (clsWords emptyC), .int .i64 0]) (by simp [results, Try.results30, go_sem, clsWords, emptyC]) rfl ⟨by rw [HV.out], ?_⟩
          exact below_store (below_drew ((Below.refl _ w).alloc (Nat.le_refl _) _) (q + q2)) (Nat.le_refl _) emptyC
        · have x1 := txt_f hab
          have x2 := txt_f (show ¬ b < a by omega)
          have HV : Hid (memS t = (St.run a (b + 1 - a), (n : Int) + 1 + m)) := Lib.hid (mem_two HC.out (by omega) HD.out HB.out (by omega) (by omega))
          clear hbad
          go_enter Try.func30, Try.ntmps30
          go_wp2_with fail
          refine (lexSingleV t hs a n HC.out _).mono ?_
          rintro e w1 ⟨rfl, q, rfl⟩
          go_wp2_with fail
          refine (textPrefixV _ _ true HP.out _).mono ?_
          rintro e w1 ⟨rfl, rfl⟩
          go_wp2_with fail
          refine (lexSingleV _ hsz b m HB2.out _).mono ?_
          rintro e w1 ⟨rfl, q2, rfl⟩
          go_wp2_with fail
          refine (setRange a b hal hbl _).mono ?_
          rintro e w1 ⟨rfl, hb1⟩
          have HZ1 : Hid (SetAt w1 w.heap.size 29 emptyC) := Lib.hid (SetAt.next ((SetAt.new w 29 emptyC).drewN (q + q2)) hb1)
          have hB1 : Below w.heap.size w w1 := (below_drew ((Below.refl _ w).alloc (Nat.le_refl _) _) (q + q2)).trans (hb1.mono (by simp))
          obtain ⟨y0, y1, y2, y3⟩ := HZ1.out.frees
          obtain ⟨z0, z1, z2, z3⟩ := HZ1.out.cells
          clear hb1
          go_wp2_with fail
          exact bodyPost_ret (results_row_tmp Try.results30 _ _ w.heap.size 29 _ (0, 0) _ rfl (HZ1.out.store _) Try.underlying29 rfl (by kernel_rfl)) rfl ⟨by rw [HV.out]; rfl, below_store hB1 (Nat.le_refl _) _⟩
    · rw [decide_eq_false hd] at hpre
      have HP := Lib.hid hpre
      clear hpre
      have HV : Hid (memS t = (St.zero.put a, (n : Int))) := Lib.hid (mem_one HC.out (by omega) hd)
      go_enter Try.func30, Try.ntmps30
      go_wp2_with fail
      refine (lexSingleV t hs a n HC.out _).mono ?_
      rintro e w1 ⟨rfl, q, rfl⟩
      go_wp2_with fail
      refine (textPrefixV _ _ false HP.out _).mono ?_
      rintro e w1 ⟨rfl, rfl⟩
      go_wp2_with fail
      refine (setOf1 a hal _ (w.heap.size + 1) (by
        have h := At.new ((w.alloc (.cells #[.int .u64 0, .int .u64 0, .int .u64 0, .int .u64 0] 29)).drewN q) 5 #[.int .u8 a]
        rw [show ((w.alloc (.cells #[.int .u64 0, .int .u64 0, .int .u64 0, .int .u64 0] 29)).drewN q).heap.size = w.heap.size + 1 from World.size_alloc _ _] at h
        exact h)).mono ?_
      rintro e w1 ⟨rfl, hb1⟩
      have HZ1 : Hid (SetAt w1 w.heap.size 29 emptyC) := Lib.hid (SetAt.next (((SetAt.new w 29 emptyC).drewN q).alloc _) hb1)
      have hB1 : Below w.heap.size w w1 := ((below_drew ((Below.refl _ w).alloc (Nat.le_refl _) _) q).alloc (by simp) _).trans (hb1.mono (by simp; try omega))
      obtain ⟨y0, y1, y2, y3⟩ := HZ1.out.frees
      obtain ⟨z0, z1, z2, z3⟩ := HZ1.out.cells
      clear hb1
      go_wp2_with fail
      exact bodyPost_ret (results_row_tmp Try.results30 _ _ w.heap.size 29 _ (0, 0) _ rfl (HZ1.out.store _) Try.underlying29 rfl (by kernel_rfl)) rfl ⟨by rw [HV.out]; rfl, below_store hB1 (Nat.le_refl _) _⟩
end Go.Proofs.Ytdcldhkpmihahaa
