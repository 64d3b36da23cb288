/- bolterlaw07.cyclic. -/
import Derived.Test.YtkbfoelffeocmaaGreatLawLeans
namespace Go.Proofs.YtkbfoelffeocmaaGreat
open Go.RowKit
set_option linter.unusedSimpArgs false
set_option linter.unusedVariables false

theorem cntB_mono {dn dn' : Nat → Bool} : ∀ n, (∀ k, k < n → dn k = true → dn' k = true) → cntB dn n ≤ cntB dn' n
  | 0, _ => Nat.le_refl _
  | n + 1, h => by
    have h1 := cntB_mono n (fun k hk => h k (by omega))
    show cntB dn n + (if dn n = true then 1 else 0) ≤ cntB dn' n + (if dn' n = true then 1 else 0)
    by_cases e : dn n = true
    · rw [if_pos e, if_pos (h n (Nat.lt_succ_self _) e)]; omega
    · rw [if_neg e]; omega
theorem cntB_more {dn dn' : Nat → Bool} {j : Nat} (hj : dn j = false) (hj' : dn' j = true) : ∀ n, j < n → (∀ k, k < n → dn k = true → dn' k = true) → cntB dn n + 1 ≤ cntB dn' n
  | 0, h, _ => absurd h (Nat.not_lt_zero _)
  | n + 1, h, hm => by
    show cntB dn n + (if dn n = true then 1 else 0) + 1 ≤ cntB dn' n + (if dn' n = true then 1 else 0)
    by_cases e : j = n
    · subst e
      have h1 := cntB_mono j (fun k hk => hm k (by omega))
      rw [if_neg (by rw [hj]; decide), if_pos hj']
      omega
    · have h1 := cntB_more hj hj' n (by omega) (fun k hk => hm k (by omega))
      by_cases e2 : dn n = true
      · rw [if_pos e2, if_pos (hm n (Nat.lt_succ_self _) e2)]; omega
      · rw [if_neg e2]; omega
def Shut (ms : List (ByteArray × ByteArray)) (rc : Nat → Bool) : Prop := ∀ a b, a < ms.length → rc a = true → mat0 ms a b = true → rc b = true
/-- What is reached from i behind r rounds. -/
structure Reach1 (ms : List (ByteArray × ByteArray)) (i r : Nat) (rc : Nat → Bool) : Prop where
  sound : ∀ k, k < ms.length → rc k = true → Tg (fun a b => mat0 ms a b = true) i k
  base : ∀ k, mat0 ms i k = true → rc k = true
  far : Shut ms rc ∨ r ≤ cntB rc ms.length
/-- Behind a part of a round. -/
structure Round1 (ms : List (ByteArray × ByteArray)) (i : Nat) (rc0 rc : Nat → Bool) (a b : Nat) : Prop where
  sound : ∀ k, k < ms.length → rc k = true → Tg (fun a b => mat0 ms a b = true) i k
  sup : ∀ k, rc0 k = true → rc k = true
  did : ∀ a' b', b' < ms.length → (a' < a ∨ (a' = a ∧ b' < b)) → rc0 a' = true → mat0 ms a' b' = true → rc b' = true
  same : Shut ms rc0 → ∀ k, rc k = rc0 k
def putB (rc : Nat → Bool) (b : Nat) (v : Bool) (k : Nat) : Bool := if k = b then v else rc k
theorem dnRow_put (dn : Nat → Bool) (n k : Nat) (v : Bool) : (dnRow dn n).setIfInBounds k (.bool v) = dnRow (putB dn k v) n := by
  unfold dnRow
  rw [arr_set]
  apply arr_congr
  intro j _
  unfold putB
  by_cases e : j = k
  · simp [e]
  · simp [e]
theorem Round1.start {ms : List (ByteArray × ByteArray)} {i r : Nat} {rc : Nat → Bool} (h : Reach1 ms i r rc) : Round1 ms i rc rc 0 0 :=
  ⟨h.sound, fun _ q => q, fun a' b' _ q _ _ => by omega, fun _ _ => rfl⟩
theorem Round1.step {ms : List (ByteArray × ByteArray)} {i : Nat} {rc0 rc : Nat → Bool} {a b : Nat} (h : Round1 ms i rc0 rc a b) (ha : a < ms.length) (hb : b < ms.length) : Round1 ms i rc0 (putB rc b (rc b || (rc a && mat0 ms a b))) a (b + 1) := by
  have up : ∀ k, rc k = true → putB rc b (rc b || (rc a && mat0 ms a b)) k = true := fun k hk => by
    unfold putB
    split
    · rename_i e; rw [← e, hk]; rfl
    · exact hk
  refine ⟨fun k hk hr => ?_, fun k hk => up k (h.sup k hk), fun a' b' hb' hh h1 h2 => ?_, fun hs k => ?_⟩
  · unfold putB at hr
    split at hr
    · rename_i e
      subst e
      rw [Bool.or_eq_true, Bool.and_eq_true] at hr
      rcases hr with hr | ⟨h1, h2⟩
      · exact h.sound _ hk hr
      · exact (h.sound a ha h1).more h2
    · exact h.sound k hk hr
  · by_cases e : a' = a ∧ b' = b
    · obtain ⟨rfl, rfl⟩ := e
      unfold putB
      rw [if_pos rfl, h.sup _ h1, h2]; simp
    · exact up b' (h.did a' b' hb' (by omega) h1 h2)
  · unfold putB
    split
    · rename_i e
      subst e
      rw [h.same hs k]
      cases hk : rc0 k with
      | true => rfl
      | false =>
        rw [h.same hs a]
        cases hra : rc0 a with
        | false => rfl
        | true =>
          cases hmm : mat0 ms a k with
          | false => rfl
          | true => have := hs a k ha hra hmm; rw [hk] at this; cases this
    · exact h.same hs k
theorem Round1.row {ms : List (ByteArray × ByteArray)} {i : Nat} {rc0 rc : Nat → Bool} {a : Nat} (h : Round1 ms i rc0 rc a ms.length) : Round1 ms i rc0 rc (a + 1) 0 :=
  ⟨h.sound, h.sup, fun a' b' hb' q h1 h2 => h.did a' b' hb' (by omega) h1 h2, h.same⟩
theorem Round1.all {ms : List (ByteArray × ByteArray)} {i r : Nat} {rc0 rc : Nat → Bool} (h0 : Reach1 ms i r rc0) (h : Round1 ms i rc0 rc ms.length 0) : Reach1 ms i (r + 1) rc := by
  refine ⟨h.sound, fun k hk => h.sup k (h0.base k hk), ?_⟩
  by_cases hs : Shut ms rc0
  · left
    intro a b ha hra hab
    rw [h.same hs] at hra ⊢
    exact hs a b ha hra hab
  · rcases h0.far with q | q
    · exact absurd q hs
    · right
      have : ∃ a b, a < ms.length ∧ rc0 a = true ∧ mat0 ms a b = true ∧ rc0 b = false := by
        apply Classical.byContradiction
        intro hno
        apply hs
        intro a b ha h1 h2
        cases hb : rc0 b with
        | true => rfl
        | false => exact absurd ⟨a, b, ha, h1, h2, hb⟩ hno
      obtain ⟨a, b, ha, h1, h2, h3⟩ := this
      have hb := (mat0_iff.1 h2).2.1
      have := cntB_more h3 (h.did a b hb (Or.inl ha) h1 h2) ms.length hb (fun k _ hk => h.sup k hk)
      omega
theorem Reach1.shut {ms : List (ByteArray × ByteArray)} {i : Nat} {rc : Nat → Bool} (h : Reach1 ms i ms.length rc) : Shut ms rc := by
  rcases h.far with q | q
  · exact q
  · have hc := cntB_le rc ms.length
    intro a b ha h1 h2
    exact cntB_all rc ms.length (by omega) b (mat0_iff.1 h2).2.1
theorem Reach1.is {ms : List (ByteArray × ByteArray)} {i : Nat} {rc : Nat → Bool} (h : Reach1 ms i ms.length rc) (hn : ms.length ≤ 20) {k : Nat} (hk : k < ms.length) : rc k = clos (mat0 ms) 20 i k := by
  have hc := clos_iff (mat0_lt hn) (i := i) (j := k)
  have hs := h.shut
  have key : ∀ k, Tg (fun a b => mat0 ms a b = true) i k → rc k = true := fun k ht => by
    induction ht with
    | one q => exact h.base _ q
    | more _ q ih => exact hs _ _ (mat0_iff.1 q).1 ih q
  cases hr : rc k with
  | true => exact (hc.2 (h.sound k hk hr)).symm
  | false =>
    cases hcl : clos (mat0 ms) 20 i k with
    | false => rfl
    | true => have := key k (hc.1 hcl); rw [hr] at this; cases this
theorem mat0_has {ms : List (ByteArray × ByteArray)} {i k : Nat} (hi : i < ms.length) (hk : k < ms.length) : hasN (wordsS (atM ms i).2).1 (atM ms k).1 = mat0 ms i k := by
  unfold mat0; rw [decide_eq_true hi, decide_eq_true hk]; rfl

set_option maxRecDepth 100000 in
set_option maxHeartbeats 4000000 in
theorem lawCyclic (ms : List (ByteArray × ByteArray)) (hn20 : ms.length ≤ 20) (i : Nat) (hi : i < ms.length) (A : Option Addr) (n c : Nat) (w : World) (hm : MacsAt w (.slice A n c) ms) (hsh : ShortM ms) :
    Calls Tryz.prog 16 #[.slice A n c, .int .i64 i] w fun e w' => e = .returned (.bool (clos (mat0 ms) 20 i i)) ∧ Below w.heap.size w w' := by
  obtain rfl := hm.len
  have hiz : (0 : Int) ≤ (i : Int) := by omega
  have hin : (i : Int) < (ms.length : Int) := by omega
  have hmb := make_dn ms.length (by omega)
  have HM := Lib.hid hm
  have HSH := Lib.hid hsh
  clear hm hsh
  go_enter Tryz.func16, Tryz.ntmps16
  go_wp2_with fail
  clear hmb
  obtain ⟨w1, hw1⟩ : ∃ w1, w1 = w.alloc (.cells (dnRow (fun _ => false) ms.length) 4) := ⟨_, rfl⟩
  have HA1 : Hid (At w1 w.heap.size 4 (dnRow (fun _ => false) ms.length)) := Lib.hid (by rw [hw1]; exact At.new _ _ _)
  have HB1 : Hid (Below w.heap.size w w1) := Lib.hid (by rw [hw1]; exact (Below.refl _ _).alloc (Nat.le_refl _) _)
  rw [← hw1]
  clear hw1
  have H0 : Hid (∀ k, k < 0 → (fun _ : Nat => false) k = mat0 ms i k) := Lib.hid (fun k hk => absurd hk (Nat.not_lt_zero _))
  go_loopw [14] (fun k' wr => ∃ (k : Nat) (rc : Nat → Bool), k ≤ ms.length ∧ k' = .int .i64 k ∧ Hid (∀ j, j < k → rc j = mat0 ms i j) ∧ Hid (At wr w.heap.size 4 (dnRow rc ms.length)) ∧ Hid (Below w.heap.size w wr)) (fun k' _ => ms.length - (intOf k').toNat)
  case atStart => exact ⟨0, fun _ => false, Nat.zero_le _, rfl, H0, HA1, HB1⟩
  case round =>
    clear HA1 HB1 H0
    obtain ⟨k, rc, hk, rfl, HR, HA, HB⟩ := hrel
    by_cases hkl : k < ms.length
    · have hkz : (0 : Int) ≤ (k : Int) := by omega
      have hkn : (k : Int) < (ms.length : Int) := by omega
      go_wp2_with fail
      refine (lawLeans ms i k hi hkl A ms.length c wr (HM.out.next HB.out) HSH.out).mono ?_
      rintro e w2 ⟨rfl, hb2⟩
      rw [mat0_has hi hkl]
      have HA2 := Lib.hid (At.below HA.out hb2 HA.out.lt)
      have HB2 := Lib.hid (HB.out.trans (hb2.mono HB.out.size))
      obtain ⟨qv, hqv⟩ : ∃ qv, w2.cell? ⟨w.heap.size, k, none⟩ = some qv := ⟨_, (HA2.out.cell k).trans (arr_get _ _ _ hkl)⟩
      have fq := HA2.out.free k
      have HN := HA2.out.set k (.bool (mat0 ms i k))
      rw [dnRow_put] at HN
      have HN := Lib.hid HN
      have HB3 := Lib.hid (HB2.out.setCell (p := ⟨w.heap.size, k, none⟩) (Nat.le_refl _) (.bool (mat0 ms i k)))
      have HR2 : Hid (∀ j, j < k + 1 → putB rc k (mat0 ms i k) j = mat0 ms i j) := Lib.hid (fun j hj => by
        unfold putB
        by_cases e : j = k
        · subst e; rw [if_pos rfl]
        · rw [if_neg e]; exact HR.out j (by omega))
      clear hb2
      go_wp2_with fail
      exact ⟨⟨k + 1, putB rc k (mat0 ms i k), by omega, by go_num, HR2, HN, HB3⟩, by simp [intOf]; omega⟩
    · obtain rfl : k = ms.length := by omega
      have HR1 : Hid (Reach1 ms i 0 rc) := Lib.hid ⟨fun k hk hr => Tg.one (by rw [← HR.out k hk]; exact hr), fun k hk => by rw [HR.out k (mat0_iff.1 hk).2.1]; exact hk, Or.inr (Nat.zero_le _)⟩
      clear HR hk hkl
      go_wp2_with fail
      go_loopw [27] (fun r' wr => ∃ (r : Nat) (rc : Nat → Bool), r ≤ ms.length ∧ r' = .int .i64 r ∧ Hid (Reach1 ms i r rc) ∧ Hid (At wr w.heap.size 4 (dnRow rc ms.length)) ∧ Hid (Below w.heap.size w wr)) (fun r' _ => ms.length - (intOf r').toNat)
      case atStart => exact ⟨0, rc, Nat.zero_le _, rfl, HR1, HA, HB⟩
      case round =>
        clear HR1 HA HB
        obtain ⟨r, rc, hr, rfl, HR, HA, HB⟩ := hrel
        by_cases hrl : r < ms.length
        · have hrn : (r : Int) < (ms.length : Int) := by omega
          go_wp2_with fail
          go_loopw [31] (fun a' wr => ∃ (a : Nat) (rc' : Nat → Bool), a ≤ ms.length ∧ a' = .int .i64 a ∧ Hid (Round1 ms i rc rc' a 0) ∧ Hid (At wr w.heap.size 4 (dnRow rc' ms.length)) ∧ Hid (Below w.heap.size w wr)) (fun a' _ => ms.length - (intOf a').toNat)
          case atStart => exact ⟨0, rc, Nat.zero_le _, rfl, Lib.hid (Round1.start HR.out), HA, HB⟩
          case round =>
            clear HA HB
            obtain ⟨a, rc1, ha, rfl, HO, HA, HB⟩ := hrel
            by_cases hal : a < ms.length
            · have haz : (0 : Int) ≤ (a : Int) := by omega
              have han : (a : Int) < (ms.length : Int) := by omega
              go_wp2_with fail
              go_loopw [36] (fun b' wr => ∃ (b : Nat) (rc' : Nat → Bool), b ≤ ms.length ∧ b' = .int .i64 b ∧ Hid (Round1 ms i rc rc' a b) ∧ Hid (At wr w.heap.size 4 (dnRow rc' ms.length)) ∧ Hid (Below w.heap.size w wr)) (fun b' _ => ms.length - (intOf b').toNat)
              case atStart => exact ⟨0, rc1, Nat.zero_le _, rfl, HO, HA, HB⟩
              case round =>
                clear HO HA HB
                obtain ⟨b, rc2, hb, rfl, HO, HA, HB⟩ := hrel
                by_cases hbl : b < ms.length
                · have hbz : (0 : Int) ≤ (b : Int) := by omega
                  have hbn : (b : Int) < (ms.length : Int) := by omega
                  have qb : wr.cell? ⟨w.heap.size, b, none⟩ = some (.bool (rc2 b)) := (HA.out.cell b).trans (arr_get _ _ _ hbl)
                  have qa : wr.cell? ⟨w.heap.size, a, none⟩ = some (.bool (rc2 a)) := (HA.out.cell a).trans (arr_get _ _ _ hal)
                  have HO2 := Lib.hid (HO.out.step hal hbl)
                  cases hrb : rc2 b with
                  | true =>
                    rw [hrb] at qb
                    have fq := HA.out.free b
                    have HN := HA.out.set b (.bool true)
                    rw [dnRow_put] at HN
                    have HN := Lib.hid HN
                    have HB3 := Lib.hid (HB.out.setCell (p := ⟨w.heap.size, b, none⟩) (Nat.le_refl _) (.bool true))
                    rw [hrb, Bool.true_or] at HO2
                    clear hrb qa
                    go_wp2_with fail
                    exact ⟨⟨b + 1, _, by omega, by go_num, HO2, HN, HB3⟩, by simp [intOf]; omega⟩
                  | false =>
                    rw [hrb] at qb
                    rw [hrb, Bool.false_or] at HO2
                    cases hra : rc2 a with
                    | false =>
                      rw [hra] at qa
                      rw [hra, Bool.false_and] at HO2
                      have fq := HA.out.free b
                      have HN := HA.out.set b (.bool false)
                      rw [dnRow_put] at HN
                      have HN := Lib.hid HN
                      have HB3 := Lib.hid (HB.out.setCell (p := ⟨w.heap.size, b, none⟩) (Nat.le_refl _) (.bool false))
                      clear hrb hra
                      go_wp2_with fail
                      exact ⟨⟨b + 1, _, by omega, by go_num, HO2, HN, HB3⟩, by simp [intOf]; omega⟩
                    | true =>
                      rw [hra] at qa
                      rw [hra, Bool.true_and] at HO2
                      clear hrb hra
                      go_wp2_with fail
                      refine (lawLeans ms a b hal hbl A ms.length c wr (HM.out.next HB.out) HSH.out).mono ?_
                      rintro e w2 ⟨rfl, hb2⟩
                      rw [mat0_has hal hbl]
                      have HA2 := Lib.hid (At.below HA.out hb2 HA.out.lt)
                      have HB2 := Lib.hid (HB.out.trans (hb2.mono HB.out.size))
                      obtain ⟨qv, hqv⟩ : ∃ qv, w2.cell? ⟨w.heap.size, b, none⟩ = some qv := ⟨_, (HA2.out.cell b).trans (arr_get _ _ _ hbl)⟩
                      have fq := HA2.out.free b
                      have HN := HA2.out.set b (.bool (mat0 ms a b))
                      rw [dnRow_put] at HN
                      have HN := Lib.hid HN
                      have HB3 := Lib.hid (HB2.out.setCell (p := ⟨w.heap.size, b, none⟩) (Nat.le_refl _) (.bool (mat0 ms a b)))
                      clear hb2 qa qb
                      go_wp2_with fail
                      exact ⟨⟨b + 1, _, by omega, by go_num, HO2, HN, HB3⟩, by simp [intOf]; omega⟩
                · obtain rfl : b = ms.length := by omega
                  go_wp2_with fail
                  exact ⟨⟨a + 1, rc2, by omega, by go_num, Lib.hid HO.out.row, HA, HB⟩, by simp [intOf]; omega⟩
            · obtain rfl : a = ms.length := by omega
              go_wp2_with fail
              exact ⟨⟨r + 1, rc1, by omega, by go_num, Lib.hid (HO.out.all HR.out), HA, HB⟩, by simp [intOf]; omega⟩
        · obtain rfl : r = ms.length := by omega
          have HI := Lib.hid (HR.out.is hn20 hi)
          have qi : wr.cell? ⟨w.heap.size, i, none⟩ = some (.bool (rc i)) := (HA.out.cell i).trans (arr_get _ _ _ hi)
          go_wp2_with fail
          go_ret
          exact ⟨by rw [← HI.out]; rfl, HB.out⟩

end Go.Proofs.YtkbfoelffeocmaaGreat
