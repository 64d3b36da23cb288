/- What tree's formedAlone, allFormed, sizeFrom, Size and Formed answer. -/
import Derived.Test.YtjkcbojlopdonaaProg
import Derived.Test.YtjkcbojlopdonaaWords
import Derived.Test.YtjkcbojlopdonaaMaa
import Derived.Test.YtjkcbojlopdonaaMae
import Derived.Test.YtjkcbojlopdonaaTr
import Derived.Test.YtjkcbojlopdonaaMab
import Derived.Test.YtjkcbojlopdonaaTreeRight
import Derived.Test.YtjkcbojlopdonaaMag
import Derived.Test.YtjkcbojlopdonaaRefFormed
import Derived.Test.YtjkcbojlopdonaaMad
namespace Go.Proofs.Ytjkcbojlopdonaa
open Go.RowKit
set_option linter.unusedSimpArgs false
set_option linter.unusedVariables false

def lokB (t : Tr) : Bool := decide (t.kind = 2 ∨ t.set.eqb St.nil = true)
def negB (t : Tr) : Bool := decide (t.kind = 8 ∨ t.kind = 9 ∨ t.neg = false)
theorem own_split (t : Tr) : ownF t = (rpB t && (rtB t && (lokB t && negB t))) := by
  unfold ownF rpB rtB lokB negB
  rw [← Bool.decide_and, ← Bool.decide_and, ← Bool.decide_and]
  apply decide_eq_decide.2
  constructor
  · rintro ⟨a, b, c, d, e, f⟩; exact ⟨⟨a, b⟩, ⟨e, f⟩, c, d⟩
  · rintro ⟨⟨a, b⟩, ⟨e, f⟩, c, d⟩; exact ⟨a, b, c, d, e, f⟩

set_option maxRecDepth 100000 in
set_option maxHeartbeats 4000000 in
theorem treeFormedAlone (t : Tr) (w : World) (hn : t.n = t.parts.length) (hl : t.parts.length ≤ 9223372036854775807) :
    Calls Try.prog 34 #[.agg t.cs.toArray] w fun e w' => e = .returned (.bool (ownF t)) ∧ Below w.heap.size w w' := by
  have hA : At (w.alloc (Obj.cells t.cs.toArray 35)) w.heap.size 35 t.cs.toArray := At.new _ _ _
  have hB : Below w.heap.size w (w.alloc (Obj.cells t.cs.toArray 35)) := (Below.refl _ _).alloc (Nat.le_refl _) _
  have HO := Lib.hid (own_split t)
  obtain ⟨p, hp⟩ : ∃ p : Bool, rpB t = p := ⟨_, rfl⟩
  obtain ⟨r, hr⟩ : ∃ r : Bool, rtB t = r := ⟨_, rfl⟩
  have HP := Lib.hid hp
  have HR := Lib.hid hr
  have HN := Lib.hid hn
  clear hp hr hn
  go_enter Try.func34, Try.ntmps34
  go_wp2_with (first | (refine wpList_load_row rfl 35 _ rfl w.heap.size rfl 35 t.cs.toArray (0, 0) _ hA Try.underlying35 rfl (by kernel_rfl) ?_) | fail)
  refine (treeRightParts t _ HN.out hl).mono ?_
  rintro e w1 ⟨rfl, hb1⟩
  rw [HP.out]
  have hA := hA.step hb1 rfl
  have hB := below_step hB hb1 rfl rfl rfl rfl
  clear hb1
  cases p
  · have HF : Hid (ownF t = false) := by rw [HO.out, HP.out]; exact rfl
    go_wp2_with fail
    go_ret
    exact ⟨ret_bool HF.out.symm, hB⟩
  · go_wp2_with (first | (refine wpList_load_row_want (by rfl) 35 _ rfl w.heap.size rfl 35 t.cs.toArray (0, 0) _ hA Try.underlying35 rfl (by kernel_rfl) ?_) | fail)
    refine (treeRightTimes t _ HN.out hl).mono ?_
    rintro e w2 ⟨rfl, hb2⟩
    rw [HR.out]
    have hA := hA.step hb2 rfl
    have hB := below_step hB hb2 rfl rfl rfl rfl
    clear hb2
    cases r
    · have HF : Hid (ownF t = false) := by rw [HO.out, HP.out, HR.out]; exact rfl
      go_wp2_with fail
      go_ret
      exact ⟨ret_bool HF.out.symm, hB⟩
    · have HO2 : Hid (ownF t = (lokB t && negB t)) := by rw [HO.out, HP.out, HR.out]; exact rfl
      obtain ⟨c0, c5, c6, c7, c8⟩ := At.tr_cell hA
      obtain ⟨s1, s2, s3, s4⟩ := At.tr_set hA
      have HA := Lib.hid hA
      clear hA c5 c6 c7
      have last : ∀ v : Bool, lokB t = v → Hid (ownF t = (v && negB t)) := fun v h => by rw [HO2.out, h]; exact rfl
      by_cases h2 : t.kind = 2
      · have d2 := (int_eq h2).1
        have d8 := (int_ne (show ¬ t.kind = 8 by omega)).1
        have d9 := (int_ne (show ¬ t.kind = 9 by omega)).1
        have HL := last true (decide_eq_true (Or.inl h2))
        obtain ⟨g, hg⟩ : ∃ g : Bool, t.neg = g := ⟨_, rfl⟩
        have HG : Hid (negB t = !g) := Lib.hid (by rw [← hg]; exact negB_at (by omega) (by omega))
        rw [hg] at c8
        clear hg h2 last
        cases g
        · go_wp2_with fail
          go_ret
          exact ⟨ret_bool (by rw [HL.out, HG.out]; rfl), hB⟩
        · go_wp2_with fail
          go_ret
          exact ⟨ret_bool (by rw [HL.out, HG.out]; rfl), hB⟩
      · have d2 := (int_ne h2).1
        by_cases hs : t.set.eqb St.nil = true
        · have ds : ∀ W, (Op.equalIn 10000 33 (.agg #[.int .u64 t.set.w0, .int .u64 t.set.w1, .int .u64 t.set.w2, .int .u64 t.set.w3]) (.agg #[.int .u64 0, .int .u64 0, .int .u64 0, .int .u64 0])).run Try.prog W = .ok true W := fun W => setEq W t.set St.nil true hs
          have HL := last true (decide_eq_true (Or.inr hs))
          clear last hs h2
          by_cases h8 : t.kind = 8
          · have d8 := (int_eq h8).1
            have HG : Hid (negB t = true) := decide_eq_true (Or.inl h8)
            clear h8
            go_wp2_with fail
            go_ret
            exact ⟨ret_bool (by rw [HL.out, HG.out]; rfl), hB⟩
          by_cases h9 : t.kind = 9
          · have d8 := (int_ne h8).1
            have d9 := (int_eq h9).1
            have HG : Hid (negB t = true) := decide_eq_true (Or.inr (Or.inl h9))
            clear h8 h9
            go_wp2_with fail
            go_ret
            exact ⟨ret_bool (by rw [HL.out, HG.out]; rfl), hB⟩
          · have d8 := (int_ne h8).1
            have d9 := (int_ne h9).1
            obtain ⟨g, hg⟩ : ∃ g : Bool, t.neg = g := ⟨_, rfl⟩
            have HG : Hid (negB t = !g) := Lib.hid (by rw [← hg]; exact negB_at h8 h9)
            rw [hg] at c8
            clear hg h8 h9
            cases g
            · go_wp2_with fail
              go_ret
              exact ⟨ret_bool (by rw [HL.out, HG.out]; rfl), hB⟩
            · go_wp2_with fail
              go_ret
              exact ⟨ret_bool (by rw [HL.out, HG.out]; rfl), hB⟩
        · have hs' : t.set.eqb St.nil = false := by simpa using hs
          have ds : ∀ W, (Op.equalIn 10000 33 (.agg #[.int .u64 t.set.w0, .int .u64 t.set.w1, .int .u64 t.set.w2, .int .u64 t.set.w3]) (.agg #[.int .u64 0, .int .u64 0, .int .u64 0, .int .u64 0])).run Try.prog W = .ok false W := fun W => setEq W t.set St.nil false hs'
          have HL := last false (decide_eq_false (fun q => by rcases q with q | q; exact h2 q; exact hs q))
          clear last hs hs' h2
          go_wp2_with fail
          go_ret
          exact ⟨ret_bool (by rw [HL.out]; rfl), hB⟩

def AllFormedAt (k : Nat) : Prop := ∀ (t : Tr) (w : World), Tr.In w k t → Calls Try.prog 27 #[.agg t.cs.toArray] w fun e w' => e = .returned (.bool (formedS k t)) ∧ Below w.heap.size w w'
set_option maxRecDepth 100000 in
set_option maxHeartbeats 4000000 in
theorem treeAllFormed : ∀ k, AllFormedAt k
  | 0 => fun _ _ h => h.elim
  | k + 1 => fun t w h => by
    have hlen : t.parts.length ≤ 9223372036854775807 := by have := h.2.1; omega
    have HN := Lib.hid h.2.1.1
    have HI := Lib.hid h
    have HIH := Lib.hid (treeAllFormed k)
    clear h
    have hA : At (w.alloc (Obj.cells t.cs.toArray 35)) w.heap.size 35 t.cs.toArray := At.new _ _ _
    have hB : Below w.heap.size w (w.alloc (Obj.cells t.cs.toArray 35)) := (Below.refl _ _).alloc (Nat.le_refl _) _
    obtain ⟨o, ho⟩ : ∃ o : Bool, ownF t = o := ⟨_, rfl⟩
    have HO := Lib.hid ho
    clear ho
    go_enter Try.func27, Try.ntmps27
    go_wp2_with (first | (refine wpList_load_row rfl 35 _ rfl w.heap.size rfl 35 t.cs.toArray (0, 0) _ hA Try.underlying35 rfl (by kernel_rfl) ?_) | fail)
    refine (treeFormedAlone t _ HN.out hlen).mono ?_
    rintro e w1 ⟨rfl, hb1⟩
    rw [HO.out]
    have hA := hA.step hb1 rfl
    have hB := below_step hB hb1 rfl rfl rfl rfl
    clear hb1
    cases o
    · go_wp2_with fail
      go_ret
      exact ⟨ret_bool (formedS_own HO.out).symm, hB⟩
    · have HA := Lib.hid hA
      have HB := Lib.hid hB
      have c5 := (At.tr_cell hA).2.1
      rw [HN.out] at c5
      clear hA hB
      go_wp2_with fail
      go_loopw [11] (fun i wr => ∃ j : Nat, j ≤ t.parts.length ∧ i = .int .i64 j ∧ Hid (formedTo k t j = true) ∧ Hid (At wr w.heap.size 35 t.cs.toArray) ∧ Hid (Below w.heap.size w wr)) (fun i _ => t.parts.length - (intOf i).toNat)
      case atStart => exact ⟨0, Nat.zero_le _, rfl, Lib.hid (formedTo_zero _), HA, HB⟩
      case round =>
        clear HA HB c5
        obtain ⟨j, hj, rfl, hT, hA, hB⟩ := hrel
        by_cases hlt : j < t.parts.length
        · obtain ⟨b, off, ha, hb, hr⟩ := HI.out.2.2.1 (by rw [HN.out]; omega)
          have HR := Lib.hid (range_below (hr j hlt) hb (Nat.le_refl _) hB.out)
          have HP := Lib.hid (Tr.In.next (HI.out.2.2.2 j hlt) hB.out)
          have hA2 := boxW_at wr t.parts[j]
          have HP2 := Lib.hid (HP.out.next (boxW_next wr t.parts[j]))
          clear hr hb
          rw [ha]
          clear ha
          have hjz : (0 : Int) ≤ (j : Int) := by omega
          have hjn : (j : Int) < (t.parts.length : Int) := by omega
          obtain ⟨v, hv⟩ : ∃ v : Bool, formedS k t.parts[j] = v := ⟨_, rfl⟩
          have HV := Lib.hid hv
          clear hv
          go_wp2_with (first
            | (refine wpList_load_mid rfl 35 _ rfl b (off + j * 9) rfl t.parts[j].cs _ HR.out Try.underlying35 rfl (by rw [Tr.cs_length]; kernel_rfl) ?_)
            | (refine wpList_store_row rfl 35 _ _ rfl wr.heap.size t.parts[j].cs.toArray rfl rfl 35 Tr.blank.cs.toArray (At.new _ _ _) (by kernel_rfl) rfl (Tr.one _) ?_; change Exit.then _ _ _ _ (boxW wr t.parts[j]))
            | (refine wpList_load_row rfl 35 _ rfl wr.heap.size rfl 35 t.parts[j].cs.toArray (0, 0) _ hA2 Try.underlying35 rfl (by kernel_rfl) ?_) | fail)
          refine (HIH.out t.parts[j] _ HP2.out).mono ?_
          rintro e w3 ⟨rfl, hb3⟩
          rw [HV.out]
          have HBx := boxW_below hB.out t.parts[j]
          have HA := Lib.hid ((hA.out.below (boxW_next wr t.parts[j]) hA.out.lt).below hb3 (by rw [boxW_size]; have := hA.out.lt; omega))
          have HB := Lib.hid (HBx.trans (hb3.mono HBx.size))
          clear hb3 hA2 HBx
          cases v
          · go_wp2_with fail
            go_ret
            exact ⟨ret_bool (formedS_not hlt HV.out).symm, HB.out⟩
          · go_wp2_with fail
            exact ⟨⟨j + 1, by omega, by go_num, Lib.hid (formedTo_succ hlt hT.out HV.out), HA, HB⟩, by simp [intOf]; omega⟩
        · obtain rfl : j = t.parts.length := by omega
          have HF := Lib.hid (formedS_yes HO.out hT.out)
          go_wp2_with fail
          go_ret
          exact ⟨ret_bool HF.out.symm, hB.out⟩

end Go.Proofs.Ytjkcbojlopdonaa
