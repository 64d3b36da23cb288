/- What the reference's formed answers. -/
import Derived.Test.YtjkcbojlopdonaaProg
import Derived.Test.YtjkcbojlopdonaaWords
import Derived.Test.YtjkcbojlopdonaaMaa
import Derived.Test.YtjkcbojlopdonaaMae
import Derived.Test.YtjkcbojlopdonaaTr
import Derived.Test.YtjkcbojlopdonaaMab
import Derived.Test.YtjkcbojlopdonaaMag
namespace Go.Proofs.Ytjkcbojlopdonaa
open Go.RowKit
set_option linter.unusedSimpArgs false
set_option linter.unusedVariables false

set_option maxRecDepth 100000 in
set_option maxHeartbeats 8000000 in
theorem formed_8 (k : Nat) (ih : FormedAt k) (t : Tr) (w : World) (h : Tr.In w (k + 1) t) (hk : t.kind = 8) :
    Calls Try.prog 17 #[.agg t.cs.toArray] w fun e w' => e = .returned (.bool (formedS (k + 1) t)) ∧ Below w.heap.size w w' := by
  have hlenz : t.parts.length ≤ 9223372036854775807 := by have := h.2.1; omega
  have hn := h.2.1.1
  have HN := Lib.hid hn
  have HI := Lib.hid h
  have HIH := Lib.hid ih
  clear h ih
  have HA0 := Lib.hid (At.new w 35 t.cs.toArray)
  obtain ⟨c0, c5, c6, c7, c8⟩ := At.tr_cell HA0.out
  obtain ⟨s1, s2, s3, s4⟩ := At.tr_set HA0.out
  have hcnt : cntF t = 1 := cnt_one (by omega)
  rw [hk] at c0
  go_enter Try.func17, Try.ntmps17
  by_cases hlen : (t.parts.length : Int) = 1
  · have dlen := (int_eq hlen).1
    have dlenx := (int_eq hlen).2
    by_cases hset : t.set.eqb St.nil = true
    · have ds : ∀ W, (Op.equalIn 10000 33 (.agg #[.int .u64 t.set.w0, .int .u64 t.set.w1, .int .u64 t.set.w2, .int .u64 t.set.w3]) (.agg #[.int .u64 0, .int .u64 0, .int .u64 0, .int .u64 0])).run Try.prog W = .ok true W := fun W => setEq W t.set St.nil true hset
      by_cases hlo : t.lo = 0
      · have dlo := (int_eq hlo).1
        have dlox := (int_eq hlo).2
        by_cases hhi : t.hi = 0
        · have dhi := (int_eq hhi).1
          have dhix := (int_eq hhi).2
          have HO := Lib.hid (ownF_yes (t := t) (by omega) (by rw [hcnt]; exact hlen) (.inr hset) (.inl hk) (.inr ⟨hlo, hhi⟩) (fun h => absurd h (by omega)))
          clear hk
          go_wp2_with fail
          clear c0 c5 c6 c7 c8 s1 s2 s3 s4
          go_loopw [108] (fun i wr => ∃ j : Nat, j ≤ t.parts.length ∧ i = .int .i64 j ∧ Hid (formedTo k t j = true) ∧ Hid (At wr w.heap.size 35 t.cs.toArray) ∧ Hid (Below w.heap.size w wr)) (fun i _ => t.parts.length - (intOf i).toNat)
          case atStart => exact ⟨0, Nat.zero_le _, rfl, Lib.hid (formedTo_zero _), HA0, Lib.hid ((Below.refl _ _).alloc (Nat.le_refl _) _)⟩
          case round =>
            obtain ⟨j, hj, rfl, hT, hA, hB⟩ := hrel
            by_cases hlt : j < t.parts.length
            · have hcell := (At.tr_cell hA.out).2.1
              obtain ⟨b, off, ha, hb, hr⟩ := HI.out.2.2.1 (by rw [HN.out]; omega)
              have HR := Lib.hid (range_below (hr j hlt) hb (Nat.le_refl _) hB.out)
              have HP := Lib.hid (Tr.In.next (HI.out.2.2.2 j hlt) hB.out)
              clear hr hb
              rw [ha] at hcell
              clear ha
              have hjz : (0 : Int) ≤ (j : Int) := by omega
              have hjn : (j : Int) < (t.parts.length : Int) := by omega
              obtain ⟨v, hv⟩ : ∃ v : Bool, formedS k t.parts[j] = v := ⟨_, rfl⟩
              have HV := Lib.hid hv
              clear hv
              go_wp2_with (refine wpList_load_mid rfl 35 _ rfl b (off + j * 9) rfl t.parts[j].cs _ HR.out Try.underlying35 rfl (by rw [Tr.cs_length]; kernel_rfl) ?_)
              refine (HIH.out t.parts[j] _ HP.out).mono ?_
              rintro e w3 ⟨rfl, hb3⟩
              rw [HV.out]
              have HA := Lib.hid (hA.out.step hb3 rfl)
              have HB := Lib.hid (below_step hB.out hb3 rfl rfl rfl rfl)
              clear hb3 hcell
              cases v
              · go_wp2_with fail
                go_ret
                exact ⟨ret_bool (formedS_not hlt HV.out).symm, HB.out⟩
              · go_wp2_with fail
                exact ⟨⟨j + 1, by omega, by go_num, Lib.hid (formedTo_succ hlt hT.out HV.out), HA, HB⟩, by simp [intOf]; omega⟩
            · obtain rfl : j = t.parts.length := by omega
              go_wp2_with fail
              go_ret
              exact ⟨ret_bool (formedS_yes HO.out hT.out).symm, hB.out⟩
        · have dhi := (int_ne hhi).1
          have dhix := (int_ne hhi).2
          have HF := Lib.hid (formedS_own (k := k) (ownF_hi (by omega) hhi))
          clear hk
          go_wp2_with fail
          go_ret
          exact ⟨ret_bool HF.out.symm, (Below.refl _ _).alloc (Nat.le_refl _) _⟩
      · have dlo := (int_ne hlo).1
        have dlox := (int_ne hlo).2
        have HF := Lib.hid (formedS_own (k := k) (ownF_lo (by omega) hlo))
        clear hk
        go_wp2_with fail
        go_ret
        exact ⟨ret_bool HF.out.symm, (Below.refl _ _).alloc (Nat.le_refl _) _⟩
    · have hsetf : t.set.eqb St.nil = false := by simpa using hset
      have ds : ∀ W, (Op.equalIn 10000 33 (.agg #[.int .u64 t.set.w0, .int .u64 t.set.w1, .int .u64 t.set.w2, .int .u64 t.set.w3]) (.agg #[.int .u64 0, .int .u64 0, .int .u64 0, .int .u64 0])).run Try.prog W = .ok false W := fun W => setEq W t.set St.nil false hsetf
      have HF := Lib.hid (formedS_own (k := k) (ownF_set (by omega) hsetf))
      clear hk
      go_wp2_with fail
      go_ret
      exact ⟨ret_bool HF.out.symm, (Below.refl _ _).alloc (Nat.le_refl _) _⟩
  · have dlen := (int_ne hlen).1
    have dlenx := (int_ne hlen).2
    have HF := Lib.hid (formedS_own (k := k) (ownF_len (by rw [hcnt]; exact hlen)))
    clear hk
    go_wp2_with fail
    go_ret
    exact ⟨ret_bool HF.out.symm, (Below.refl _ _).alloc (Nat.le_refl _) _⟩

set_option maxRecDepth 100000 in
set_option maxHeartbeats 8000000 in
theorem formed_9 (k : Nat) (ih : FormedAt k) (t : Tr) (w : World) (h : Tr.In w (k + 1) t) (hk : t.kind = 9) :
    Calls Try.prog 17 #[.agg t.cs.toArray] w fun e w' => e = .returned (.bool (formedS (k + 1) t)) ∧ Below w.heap.size w w' := by
  have hlenz : t.parts.length ≤ 9223372036854775807 := by have := h.2.1; omega
  have hn := h.2.1.1
  have HN := Lib.hid hn
  have HI := Lib.hid h
  have HIH := Lib.hid ih
  clear h ih
  have HA0 := Lib.hid (At.new w 35 t.cs.toArray)
  obtain ⟨c0, c5, c6, c7, c8⟩ := At.tr_cell HA0.out
  obtain ⟨s1, s2, s3, s4⟩ := At.tr_set HA0.out
  have hcnt : cntF t = 1 := cnt_one (by omega)
  rw [hk] at c0
  go_enter Try.func17, Try.ntmps17
  by_cases hlen : (t.parts.length : Int) = 1
  · have dlen := (int_eq hlen).1
    have dlenx := (int_eq hlen).2
    by_cases hset : t.set.eqb St.nil = true
    · have ds : ∀ W, (Op.equalIn 10000 33 (.agg #[.int .u64 t.set.w0, .int .u64 t.set.w1, .int .u64 t.set.w2, .int .u64 t.set.w3]) (.agg #[.int .u64 0, .int .u64 0, .int .u64 0, .int .u64 0])).run Try.prog W = .ok true W := fun W => setEq W t.set St.nil true hset
      by_cases hlo : t.lo = 0
      · have dlo := (int_eq hlo).1
        have dlox := (int_eq hlo).2
        by_cases hhi : t.hi = 0
        · have dhi := (int_eq hhi).1
          have dhix := (int_eq hhi).2
          have HO := Lib.hid (ownF_yes (t := t) (by omega) (by rw [hcnt]; exact hlen) (.inr hset) (.inr (.inl hk)) (.inr ⟨hlo, hhi⟩) (fun h => absurd h (by omega)))
          clear hk
          go_wp2_with fail
          clear c0 c5 c6 c7 c8 s1 s2 s3 s4
          go_loopw [108] (fun i wr => ∃ j : Nat, j ≤ t.parts.length ∧ i = .int .i64 j ∧ Hid (formedTo k t j = true) ∧ Hid (At wr w.heap.size 35 t.cs.toArray) ∧ Hid (Below w.heap.size w wr)) (fun i _ => t.parts.length - (intOf i).toNat)
          case atStart => exact ⟨0, Nat.zero_le _, rfl, Lib.hid (formedTo_zero _), HA0, Lib.hid ((Below.refl _ _).alloc (Nat.le_refl _) _)⟩
          case round =>
            obtain ⟨j, hj, rfl, hT, hA, hB⟩ := hrel
            by_cases hlt : j < t.parts.length
            · have hcell := (At.tr_cell hA.out).2.1
              obtain ⟨b, off, ha, hb, hr⟩ := HI.out.2.2.1 (by rw [HN.out]; omega)
              have HR := Lib.hid (range_below (hr j hlt) hb (Nat.le_refl _) hB.out)
              have HP := Lib.hid (Tr.In.next (HI.out.2.2.2 j hlt) hB.out)
              clear hr hb
              rw [ha] at hcell
              clear ha
              have hjz : (0 : Int) ≤ (j : Int) := by omega
              have hjn : (j : Int) < (t.parts.length : Int) := by omega
              obtain ⟨v, hv⟩ : ∃ v : Bool, formedS k t.parts[j] = v := ⟨_, rfl⟩
              have HV := Lib.hid hv
              clear hv
              go_wp2_with (refine wpList_load_mid rfl 35 _ rfl b (off + j * 9) rfl t.parts[j].cs _ HR.out Try.underlying35 rfl (by rw [Tr.cs_length]; kernel_rfl) ?_)
              refine (HIH.out t.parts[j] _ HP.out).mono ?_
              rintro e w3 ⟨rfl, hb3⟩
              rw [HV.out]
              have HA := Lib.hid (hA.out.step hb3 rfl)
              have HB := Lib.hid (below_step hB.out hb3 rfl rfl rfl rfl)
              clear hb3 hcell
              cases v
              · go_wp2_with fail
                go_ret
                exact ⟨ret_bool (formedS_not hlt HV.out).symm, HB.out⟩
              · go_wp2_with fail
                exact ⟨⟨j + 1, by omega, by go_num, Lib.hid (formedTo_succ hlt hT.out HV.out), HA, HB⟩, by simp [intOf]; omega⟩
            · obtain rfl : j = t.parts.length := by omega
              go_wp2_with fail
              go_ret
              exact ⟨ret_bool (formedS_yes HO.out hT.out).symm, hB.out⟩
        · have dhi := (int_ne hhi).1
          have dhix := (int_ne hhi).2
          have HF := Lib.hid (formedS_own (k := k) (ownF_hi (by omega) hhi))
          clear hk
          go_wp2_with fail
          go_ret
          exact ⟨ret_bool HF.out.symm, (Below.refl _ _).alloc (Nat.le_refl _) _⟩
      · have dlo := (int_ne hlo).1
        have dlox := (int_ne hlo).2
        have HF := Lib.hid (formedS_own (k := k) (ownF_lo (by omega) hlo))
        clear hk
        go_wp2_with fail
        go_ret
        exact ⟨ret_bool HF.out.symm, (Below.refl _ _).alloc (Nat.le_refl _) _⟩
    · have hsetf : t.set.eqb St.nil = false := by simpa using hset
      have ds : ∀ W, (Op.equalIn 10000 33 (.agg #[.int .u64 t.set.w0, .int .u64 t.set.w1, .int .u64 t.set.w2, .int .u64 t.set.w3]) (.agg #[.int .u64 0, .int .u64 0, .int .u64 0, .int .u64 0])).run Try.prog W = .ok false W := fun W => setEq W t.set St.nil false hsetf
      have HF := Lib.hid (formedS_own (k := k) (ownF_set (by omega) hsetf))
      clear hk
      go_wp2_with fail
      go_ret
      exact ⟨ret_bool HF.out.symm, (Below.refl _ _).alloc (Nat.le_refl _) _⟩
  · have dlen := (int_ne hlen).1
    have dlenx := (int_ne hlen).2
    have HF := Lib.hid (formedS_own (k := k) (ownF_len (by rw [hcnt]; exact hlen)))
    clear hk
    go_wp2_with fail
    go_ret
    exact ⟨ret_bool HF.out.symm, (Below.refl _ _).alloc (Nat.le_refl _) _⟩

end Go.Proofs.Ytjkcbojlopdonaa
