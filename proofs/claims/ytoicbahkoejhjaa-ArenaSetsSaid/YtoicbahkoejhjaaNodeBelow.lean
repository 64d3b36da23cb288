/- bolterlaw09.below: is a node below another one, or itself? -/
import Derived.Test.YtoicbahkoejhjaaNode
namespace Go.Proofs.Ytoicbahkoejhjaa
open Go.RowKit
set_option linter.unusedSimpArgs false
set_option linter.unusedVariables false

/-- Below, with so many steps to go. -/
def belowS (ns : List Nd) (k : Nat) : Nat → Int → Bool
  | 0, _ => false
  | f + 1, id => decide (id = k) || (let x := ndAt ns id.toNat
    if x.kind = 3 ∨ x.kind = 4 ∨ x.kind = 5 then (decide ((k : Int) ≤ x.a) && belowS ns k f x.a) || (decide ((k : Int) ≤ x.b) && belowS ns k f x.b)
    else if x.kind = 6 ∨ x.kind = 7 then decide ((k : Int) ≤ x.a) && belowS ns k f x.a
    else false)
theorem below_self (ns : List Nd) (k f : Nat) : belowS ns k (f + 1) k = true := by unfold belowS; simp
theorem below_step2 {ns : List Nd} {k f id : Nat} {x : Nd} (h : id ≠ k) (hx : ndAt ns id = x) : belowS ns k (f + 1) id = (if x.kind = 3 ∨ x.kind = 4 ∨ x.kind = 5 then (decide ((k : Int) ≤ x.a) && belowS ns k f x.a) || (decide ((k : Int) ≤ x.b) && belowS ns k f x.b)
    else if x.kind = 6 ∨ x.kind = 7 then decide ((k : Int) ≤ x.a) && belowS ns k f x.a
    else false) := by
  have hne : ¬ ((id : Int) = (k : Int)) := by omega
  show (decide ((id : Int) = k) || _) = _
  rw [decide_eq_false hne, Bool.false_or]
  simp only [Int.toNat_natCast, hx]

set_option maxRecDepth 100000 in
set_option maxHeartbeats 8000000 in
theorem lawBelow (ns : List Nd) (k : Nat) (v0 : Value) (hns : ns.length ≤ 100000) (hk : k ≤ 100000) (hok : ∀ j, j < ns.length → NdOk (ndAt ns j) j) : ∀ (f id : Nat) (w : World), id < f → id < ns.length → NdsAt w v0 ns →
    Calls Try.prog 21 #[v0, .int .i64 id, .int .i64 k] w fun e w' => e = .returned (.bool (belowS ns k f id)) ∧ Below w.heap.size w w'
  | 0, _, _, h, _, _ => absurd h (Nat.not_lt_zero _)
  | f + 1, id, w, hf, hid, hv => by
    have HV := Lib.hid hv
    obtain ⟨A0, c0, rfl, _, _⟩ := HV.out
    clear hv
    by_cases hik : id = k
    · subst hik
      have HS := Lib.hid (below_self ns id f)
      have hb1 : ((id : Int) == (id : Int)) = true := beq_self_eq_true _
      go_enter Try.func21, Try.ntmps21
      go_wp2_with fail
      go_ret
      exact ⟨by rw [HS.out]; rfl, Below.refl _ _⟩
    · have hik1 : ((id : Int) == (k : Int)) = false := beq_eq_false_iff_ne.2 (by omega)
      have hik2 : ¬ (id : Int) = (k : Int) := by omega
      have hik3 : (id == k) = false := beq_eq_false_iff_ne.2 hik
      have hjz : (0 : Int) ≤ (id : Int) := by omega
      have hjn : (id : Int) < (ns.length : Int) := by omega
      obtain ⟨A', cap, e1, _, h3⟩ := HV.out
      injection e1 with e1 _ e3
      subst e1
      subst e3
      obtain ⟨b, off, rfl, hbb, hr⟩ := h3 (by omega)
      have HR := Lib.hid (hr id hid)
      have HOK := Lib.hid (hok id hid)
      obtain ⟨x, hx⟩ : ∃ x, ndAt ns id = x := ⟨_, rfl⟩
      have HS := Lib.hid (below_step2 (f := f) hik hx)
      rw [hx] at HR HOK
      have hone := Nd.one x
      have HXb := Lib.hid (boxN_at w x)
      have HBb := Lib.hid (boxN_next w x)
      have HVb := Lib.hid (HV.out.next HBb.out)
      have HIH : Hid (∀ (q : Nat) (w : World), q < f → q < ns.length → NdsAt w (.slice (some ⟨b, off, none⟩) ns.length c0) ns → Calls Try.prog 21 #[.slice (some ⟨b, off, none⟩) ns.length c0, .int .i64 q, .int .i64 k] w fun e w' => e = .returned (.bool (belowS ns k f q)) ∧ Below w.heap.size w w') := Lib.hid (fun q w h1 h2 h3 => lawBelow ns k _ hns hk hok f q w h1 h2 h3)
      clear hr hbb h3 hx hok
      go_enter Try.func21, Try.ntmps21
      have ck := (Nd.cells HXb.out).1
      have c5 := (Nd.cells HXb.out).2.2.2.2.2.1
      have c6 := (Nd.cells HXb.out).2.2.2.2.2.2.1
      by_cases hk3 : x.kind = 3
      · have HKd := Lib.hid hk3
        rw [hk3] at ck
        clear hk3
        have hab := HOK.out.2.1 (by have := HKd.out; omega)
        obtain ⟨ka, hka⟩ : ∃ q : Nat, x.a = (q : Int) := ⟨x.a.toNat, by omega⟩
        rw [hka] at c5
        obtain ⟨kb, hkb⟩ : ∃ q : Nat, x.b = (q : Int) := ⟨x.b.toNat, by omega⟩
        rw [hkb] at c6
        have HKa := Lib.hid hka
        have HKb := Lib.hid hkb
        have hkb1 : kb < f := by omega
        have hkb2 : kb < ns.length := by omega
        have hka1 : ka < f := by omega
        have hka2 : ka < ns.length := by omega
        clear hka hkb hab
        have HVn := HVb
        by_cases hak : k ≤ ka
        · have ta1 : (k : Int) ≤ (ka : Int) := by omega
          have ta2 : decide ((k : Int) ≤ (ka : Int)) = true := decide_eq_true ta1
          have ta3 : decide (k ≤ ka) = true := decide_eq_true hak
          have HTa := Lib.hid ta2
          go_wp2_with (first
            | (with_reducible show wpList _ _ _ ({ dst := some 14, op := .load _ _, type := _, pos := _, after := _, guard := _ } :: _) _ _
               refine wpList_load_mid rfl 34 _ rfl b (off + id * 8) rfl x.cs _ HR.out Try.underlying34 rfl (by rw [Nd.cs_length]; kernel_rfl) ?_)
            | (with_reducible show wpList _ _ _ ({ dst := none, op := .store _ _ _, type := _, pos := _, after := _, guard := _ } :: _) _ _
               refine wpList_store_row rfl 34 _ _ rfl w.heap.size x.cs.toArray rfl rfl 34 Nd.zero.cs.toArray (At.new _ _ _) (by kernel_rfl) rfl hone ?_
               change Exit.then _ _ _ _ (boxN w x))
            | fail)
          refine (HIH.out ka (boxN w x) (by omega) (by omega) HVn.out).mono ?_
          rintro e w3 ⟨rfl, hba⟩
          obtain ⟨va, hva⟩ : ∃ v, belowS ns k f (ka : Int) = v := ⟨_, rfl⟩
          have HVa := Lib.hid hva
          rw [hva]
          clear hva
          have HB3 := Lib.hid (HBb.out.trans (hba.mono HBb.out.size))
          have HV3 := Lib.hid (HVn.out.next hba)
          have HX3 := Lib.hid (At.below HXb.out hba HXb.out.lt)
          clear c5 c6 ck hba
          have c6 := (Nd.cells HX3.out).2.2.2.2.2.2.1
          rw [HKb.out] at c6
          cases va
          · by_cases hbk : k ≤ kb
            · have tb1 : (k : Int) ≤ (kb : Int) := by omega
              have tb2 : decide ((k : Int) ≤ (kb : Int)) = true := decide_eq_true tb1
              have tb3 : decide (k ≤ kb) = true := decide_eq_true hbk
              have HTb := Lib.hid tb2
              go_wp2_with fail
              refine (HIH.out kb w3 (by omega) (by omega) HV3.out).mono ?_
              rintro e w5 ⟨rfl, hbb⟩
              obtain ⟨vb, hvb⟩ : ∃ v, belowS ns k f (kb : Int) = v := ⟨_, rfl⟩
              have HVb := Lib.hid hvb
              rw [hvb]
              clear hvb
              go_wp2_with fail
              go_ret
              exact ⟨by rw [HS.out]; simp [HKd.out, HKa.out, HKb.out, hak, HVa.out, hbk, HVb.out], HB3.out.trans (hbb.mono HB3.out.size)⟩
            · have tb1 : ¬ (k : Int) ≤ (kb : Int) := by omega
              have tb2 : decide ((k : Int) ≤ (kb : Int)) = false := decide_eq_false tb1
              have tb3 : decide (k ≤ kb) = false := decide_eq_false hbk
              have HTb := Lib.hid tb2
              go_wp2_with fail
              go_ret
              exact ⟨by rw [HS.out]; simp [HKd.out, HKa.out, HKb.out, hak, HVa.out, hbk], HB3.out⟩
          · go_wp2_with fail
            go_ret
            exact ⟨by rw [HS.out]; simp [HKd.out, HKa.out, HKb.out, hak, HVa.out], HB3.out⟩
        · have ta1 : ¬ (k : Int) ≤ (ka : Int) := by omega
          have ta2 : decide ((k : Int) ≤ (ka : Int)) = false := decide_eq_false ta1
          have ta3 : decide (k ≤ ka) = false := decide_eq_false hak
          have HTa := Lib.hid ta2
          by_cases hbk : k ≤ kb
          · have tb1 : (k : Int) ≤ (kb : Int) := by omega
            have tb2 : decide ((k : Int) ≤ (kb : Int)) = true := decide_eq_true tb1
            have tb3 : decide (k ≤ kb) = true := decide_eq_true hbk
            have HTb := Lib.hid tb2
            go_wp2_with (first
              | (with_reducible show wpList _ _ _ ({ dst := some 14, op := .load _ _, type := _, pos := _, after := _, guard := _ } :: _) _ _
                 refine wpList_load_mid rfl 34 _ rfl b (off + id * 8) rfl x.cs _ HR.out Try.underlying34 rfl (by rw [Nd.cs_length]; kernel_rfl) ?_)
              | (with_reducible show wpList _ _ _ ({ dst := none, op := .store _ _ _, type := _, pos := _, after := _, guard := _ } :: _) _ _
                 refine wpList_store_row rfl 34 _ _ rfl w.heap.size x.cs.toArray rfl rfl 34 Nd.zero.cs.toArray (At.new _ _ _) (by kernel_rfl) rfl hone ?_
                 change Exit.then _ _ _ _ (boxN w x))
              | fail)
            refine (HIH.out kb (boxN w x) (by omega) (by omega) HVn.out).mono ?_
            rintro e w5 ⟨rfl, hbb⟩
            obtain ⟨vb, hvb⟩ : ∃ v, belowS ns k f (kb : Int) = v := ⟨_, rfl⟩
            have HVb := Lib.hid hvb
            rw [hvb]
            clear hvb
            go_wp2_with fail
            go_ret
            exact ⟨by rw [HS.out]; simp [HKd.out, HKa.out, HKb.out, hak, hbk, HVb.out], HBb.out.trans (hbb.mono HBb.out.size)⟩
          · have tb1 : ¬ (k : Int) ≤ (kb : Int) := by omega
            have tb2 : decide ((k : Int) ≤ (kb : Int)) = false := decide_eq_false tb1
            have tb3 : decide (k ≤ kb) = false := decide_eq_false hbk
            have HTb := Lib.hid tb2
            go_wp2_with (first
              | (with_reducible show wpList _ _ _ ({ dst := some 14, op := .load _ _, type := _, pos := _, after := _, guard := _ } :: _) _ _
                 refine wpList_load_mid rfl 34 _ rfl b (off + id * 8) rfl x.cs _ HR.out Try.underlying34 rfl (by rw [Nd.cs_length]; kernel_rfl) ?_)
              | (with_reducible show wpList _ _ _ ({ dst := none, op := .store _ _ _, type := _, pos := _, after := _, guard := _ } :: _) _ _
                 refine wpList_store_row rfl 34 _ _ rfl w.heap.size x.cs.toArray rfl rfl 34 Nd.zero.cs.toArray (At.new _ _ _) (by kernel_rfl) rfl hone ?_
                 change Exit.then _ _ _ _ (boxN w x))
              | fail)
            go_ret
            exact ⟨by rw [HS.out]; simp [HKd.out, HKa.out, HKb.out, hak, hbk], HBb.out⟩
      by_cases hk4 : x.kind = 4
      · have HKd := Lib.hid hk4
        rw [hk4] at ck
        clear hk4
        have hab := HOK.out.2.1 (by have := HKd.out; omega)
        obtain ⟨ka, hka⟩ : ∃ q : Nat, x.a = (q : Int) := ⟨x.a.toNat, by omega⟩
        rw [hka] at c5
        obtain ⟨kb, hkb⟩ : ∃ q : Nat, x.b = (q : Int) := ⟨x.b.toNat, by omega⟩
        rw [hkb] at c6
        have HKa := Lib.hid hka
        have HKb := Lib.hid hkb
        have hkb1 : kb < f := by omega
        have hkb2 : kb < ns.length := by omega
        have hka1 : ka < f := by omega
        have hka2 : ka < ns.length := by omega
        clear hka hkb hab
        have HVn := HVb
        by_cases hak : k ≤ ka
        · have ta1 : (k : Int) ≤ (ka : Int) := by omega
          have ta2 : decide ((k : Int) ≤ (ka : Int)) = true := decide_eq_true ta1
          have ta3 : decide (k ≤ ka) = true := decide_eq_true hak
          have HTa := Lib.hid ta2
          go_wp2_with (first
            | (with_reducible show wpList _ _ _ ({ dst := some 14, op := .load _ _, type := _, pos := _, after := _, guard := _ } :: _) _ _
               refine wpList_load_mid rfl 34 _ rfl b (off + id * 8) rfl x.cs _ HR.out Try.underlying34 rfl (by rw [Nd.cs_length]; kernel_rfl) ?_)
            | (with_reducible show wpList _ _ _ ({ dst := none, op := .store _ _ _, type := _, pos := _, after := _, guard := _ } :: _) _ _
               refine wpList_store_row rfl 34 _ _ rfl w.heap.size x.cs.toArray rfl rfl 34 Nd.zero.cs.toArray (At.new _ _ _) (by kernel_rfl) rfl hone ?_
               change Exit.then _ _ _ _ (boxN w x))
            | fail)
          refine (HIH.out ka (boxN w x) (by omega) (by omega) HVn.out).mono ?_
          rintro e w3 ⟨rfl, hba⟩
          obtain ⟨va, hva⟩ : ∃ v, belowS ns k f (ka : Int) = v := ⟨_, rfl⟩
          have HVa := Lib.hid hva
          rw [hva]
          clear hva
          have HB3 := Lib.hid (HBb.out.trans (hba.mono HBb.out.size))
          have HV3 := Lib.hid (HVn.out.next hba)
          have HX3 := Lib.hid (At.below HXb.out hba HXb.out.lt)
          clear c5 c6 ck hba
          have c6 := (Nd.cells HX3.out).2.2.2.2.2.2.1
          rw [HKb.out] at c6
          cases va
          · by_cases hbk : k ≤ kb
            · have tb1 : (k : Int) ≤ (kb : Int) := by omega
              have tb2 : decide ((k : Int) ≤ (kb : Int)) = true := decide_eq_true tb1
              have tb3 : decide (k ≤ kb) = true := decide_eq_true hbk
              have HTb := Lib.hid tb2
              go_wp2_with fail
              refine (HIH.out kb w3 (by omega) (by omega) HV3.out).mono ?_
              rintro e w5 ⟨rfl, hbb⟩
              obtain ⟨vb, hvb⟩ : ∃ v, belowS ns k f (kb : Int) = v := ⟨_, rfl⟩
              have HVb := Lib.hid hvb
              rw [hvb]
              clear hvb
              go_wp2_with fail
              go_ret
              exact ⟨by rw [HS.out]; simp [HKd.out, HKa.out, HKb.out, hak, HVa.out, hbk, HVb.out], HB3.out.trans (hbb.mono HB3.out.size)⟩
            · have tb1 : ¬ (k : Int) ≤ (kb : Int) := by omega
              have tb2 : decide ((k : Int) ≤ (kb : Int)) = false := decide_eq_false tb1
              have tb3 : decide (k ≤ kb) = false := decide_eq_false hbk
              have HTb := Lib.hid tb2
              go_wp2_with fail
              go_ret
              exact ⟨by rw [HS.out]; simp [HKd.out, HKa.out, HKb.out, hak, HVa.out, hbk], HB3.out⟩
          · go_wp2_with fail
            go_ret
            exact ⟨by rw [HS.out]; simp [HKd.out, HKa.out, HKb.out, hak, HVa.out], HB3.out⟩
        · have ta1 : ¬ (k : Int) ≤ (ka : Int) := by omega
          have ta2 : decide ((k : Int) ≤ (ka : Int)) = false := decide_eq_false ta1
          have ta3 : decide (k ≤ ka) = false := decide_eq_false hak
          have HTa := Lib.hid ta2
          by_cases hbk : k ≤ kb
          · have tb1 : (k : Int) ≤ (kb : Int) := by omega
            have tb2 : decide ((k : Int) ≤ (kb : Int)) = true := decide_eq_true tb1
            have tb3 : decide (k ≤ kb) = true := decide_eq_true hbk
            have HTb := Lib.hid tb2
            go_wp2_with (first
              | (with_reducible show wpList _ _ _ ({ dst := some 14, op := .load _ _, type := _, pos := _, after := _, guard := _ } :: _) _ _
                 refine wpList_load_mid rfl 34 _ rfl b (off + id * 8) rfl x.cs _ HR.out Try.underlying34 rfl (by rw [Nd.cs_length]; kernel_rfl) ?_)
              | (with_reducible show wpList _ _ _ ({ dst := none, op := .store _ _ _, type := _, pos := _, after := _, guard := _ } :: _) _ _
                 refine wpList_store_row rfl 34 _ _ rfl w.heap.size x.cs.toArray rfl rfl 34 Nd.zero.cs.toArray (At.new _ _ _) (by kernel_rfl) rfl hone ?_
                 change Exit.then _ _ _ _ (boxN w x))
              | fail)
            refine (HIH.out kb (boxN w x) (by omega) (by omega) HVn.out).mono ?_
            rintro e w5 ⟨rfl, hbb⟩
            obtain ⟨vb, hvb⟩ : ∃ v, belowS ns k f (kb : Int) = v := ⟨_, rfl⟩
            have HVb := Lib.hid hvb
            rw [hvb]
            clear hvb
            go_wp2_with fail
            go_ret
            exact ⟨by rw [HS.out]; simp [HKd.out, HKa.out, HKb.out, hak, hbk, HVb.out], HBb.out.trans (hbb.mono HBb.out.size)⟩
          · have tb1 : ¬ (k : Int) ≤ (kb : Int) := by omega
            have tb2 : decide ((k : Int) ≤ (kb : Int)) = false := decide_eq_false tb1
            have tb3 : decide (k ≤ kb) = false := decide_eq_false hbk
            have HTb := Lib.hid tb2
            go_wp2_with (first
              | (with_reducible show wpList _ _ _ ({ dst := some 14, op := .load _ _, type := _, pos := _, after := _, guard := _ } :: _) _ _
                 refine wpList_load_mid rfl 34 _ rfl b (off + id * 8) rfl x.cs _ HR.out Try.underlying34 rfl (by rw [Nd.cs_length]; kernel_rfl) ?_)
              | (with_reducible show wpList _ _ _ ({ dst := none, op := .store _ _ _, type := _, pos := _, after := _, guard := _ } :: _) _ _
                 refine wpList_store_row rfl 34 _ _ rfl w.heap.size x.cs.toArray rfl rfl 34 Nd.zero.cs.toArray (At.new _ _ _) (by kernel_rfl) rfl hone ?_
                 change Exit.then _ _ _ _ (boxN w x))
              | fail)
            go_ret
            exact ⟨by rw [HS.out]; simp [HKd.out, HKa.out, HKb.out, hak, hbk], HBb.out⟩
      by_cases hk5 : x.kind = 5
      · have HKd := Lib.hid hk5
        rw [hk5] at ck
        clear hk5
        have hab := HOK.out.2.1 (by have := HKd.out; omega)
        obtain ⟨ka, hka⟩ : ∃ q : Nat, x.a = (q : Int) := ⟨x.a.toNat, by omega⟩
        rw [hka] at c5
        obtain ⟨kb, hkb⟩ : ∃ q : Nat, x.b = (q : Int) := ⟨x.b.toNat, by omega⟩
        rw [hkb] at c6
        have HKa := Lib.hid hka
        have HKb := Lib.hid hkb
        have hkb1 : kb < f := by omega
        have hkb2 : kb < ns.length := by omega
        have hka1 : ka < f := by omega
        have hka2 : ka < ns.length := by omega
        clear hka hkb hab
        have HVn := HVb
        by_cases hak : k ≤ ka
        · have ta1 : (k : Int) ≤ (ka : Int) := by omega
          have ta2 : decide ((k : Int) ≤ (ka : Int)) = true := decide_eq_true ta1
          have ta3 : decide (k ≤ ka) = true := decide_eq_true hak
          have HTa := Lib.hid ta2
          go_wp2_with (first
            | (with_reducible show wpList _ _ _ ({ dst := some 14, op := .load _ _, type := _, pos := _, after := _, guard := _ } :: _) _ _
               refine wpList_load_mid rfl 34 _ rfl b (off + id * 8) rfl x.cs _ HR.out Try.underlying34 rfl (by rw [Nd.cs_length]; kernel_rfl) ?_)
            | (with_reducible show wpList _ _ _ ({ dst := none, op := .store _ _ _, type := _, pos := _, after := _, guard := _ } :: _) _ _
               refine wpList_store_row rfl 34 _ _ rfl w.heap.size x.cs.toArray rfl rfl 34 Nd.zero.cs.toArray (At.new _ _ _) (by kernel_rfl) rfl hone ?_
               change Exit.then _ _ _ _ (boxN w x))
            | fail)
          refine (HIH.out ka (boxN w x) (by omega) (by omega) HVn.out).mono ?_
          rintro e w3 ⟨rfl, hba⟩
          obtain ⟨va, hva⟩ : ∃ v, belowS ns k f (ka : Int) = v := ⟨_, rfl⟩
          have HVa := Lib.hid hva
          rw [hva]
          clear hva
          have HB3 := Lib.hid (HBb.out.trans (hba.mono HBb.out.size))
          have HV3 := Lib.hid (HVn.out.next hba)
          have HX3 := Lib.hid (At.below HXb.out hba HXb.out.lt)
          clear c5 c6 ck hba
          have c6 := (Nd.cells HX3.out).2.2.2.2.2.2.1
          rw [HKb.out] at c6
          cases va
          · by_cases hbk : k ≤ kb
            · have tb1 : (k : Int) ≤ (kb : Int) := by omega
              have tb2 : decide ((k : Int) ≤ (kb : Int)) = true := decide_eq_true tb1
              have tb3 : decide (k ≤ kb) = true := decide_eq_true hbk
              have HTb := Lib.hid tb2
              go_wp2_with fail
              refine (HIH.out kb w3 (by omega) (by omega) HV3.out).mono ?_
              rintro e w5 ⟨rfl, hbb⟩
              obtain ⟨vb, hvb⟩ : ∃ v, belowS ns k f (kb : Int) = v := ⟨_, rfl⟩
              have HVb := Lib.hid hvb
              rw [hvb]
              clear hvb
              go_wp2_with fail
              go_ret
              exact ⟨by rw [HS.out]; simp [HKd.out, HKa.out, HKb.out, hak, HVa.out, hbk, HVb.out], HB3.out.trans (hbb.mono HB3.out.size)⟩
            · have tb1 : ¬ (k : Int) ≤ (kb : Int) := by omega
              have tb2 : decide ((k : Int) ≤ (kb : Int)) = false := decide_eq_false tb1
              have tb3 : decide (k ≤ kb) = false := decide_eq_false hbk
              have HTb := Lib.hid tb2
              go_wp2_with fail
              go_ret
              exact ⟨by rw [HS.out]; simp [HKd.out, HKa.out, HKb.out, hak, HVa.out, hbk], HB3.out⟩
          · go_wp2_with fail
            go_ret
            exact ⟨by rw [HS.out]; simp [HKd.out, HKa.out, HKb.out, hak, HVa.out], HB3.out⟩
        · have ta1 : ¬ (k : Int) ≤ (ka : Int) := by omega
          have ta2 : decide ((k : Int) ≤ (ka : Int)) = false := decide_eq_false ta1
          have ta3 : decide (k ≤ ka) = false := decide_eq_false hak
          have HTa := Lib.hid ta2
          by_cases hbk : k ≤ kb
          · have tb1 : (k : Int) ≤ (kb : Int) := by omega
            have tb2 : decide ((k : Int) ≤ (kb : Int)) = true := decide_eq_true tb1
            have tb3 : decide (k ≤ kb) = true := decide_eq_true hbk
            have HTb := Lib.hid tb2
            go_wp2_with (first
              | (with_reducible show wpList _ _ _ ({ dst := some 14, op := .load _ _, type := _, pos := _, after := _, guard := _ } :: _) _ _
                 refine wpList_load_mid rfl 34 _ rfl b (off + id * 8) rfl x.cs _ HR.out Try.underlying34 rfl (by rw [Nd.cs_length]; kernel_rfl) ?_)
              | (with_reducible show wpList _ _ _ ({ dst := none, op := .store _ _ _, type := _, pos := _, after := _, guard := _ } :: _) _ _
                 refine wpList_store_row rfl 34 _ _ rfl w.heap.size x.cs.toArray rfl rfl 34 Nd.zero.cs.toArray (At.new _ _ _) (by kernel_rfl) rfl hone ?_
                 change Exit.then _ _ _ _ (boxN w x))
              | fail)
            refine (HIH.out kb (boxN w x) (by omega) (by omega) HVn.out).mono ?_
            rintro e w5 ⟨rfl, hbb⟩
            obtain ⟨vb, hvb⟩ : ∃ v, belowS ns k f (kb : Int) = v := ⟨_, rfl⟩
            have HVb := Lib.hid hvb
            rw [hvb]
            clear hvb
            go_wp2_with fail
            go_ret
            exact ⟨by rw [HS.out]; simp [HKd.out, HKa.out, HKb.out, hak, hbk, HVb.out], HBb.out.trans (hbb.mono HBb.out.size)⟩
          · have tb1 : ¬ (k : Int) ≤ (kb : Int) := by omega
            have tb2 : decide ((k : Int) ≤ (kb : Int)) = false := decide_eq_false tb1
            have tb3 : decide (k ≤ kb) = false := decide_eq_false hbk
            have HTb := Lib.hid tb2
            go_wp2_with (first
              | (with_reducible show wpList _ _ _ ({ dst := some 14, op := .load _ _, type := _, pos := _, after := _, guard := _ } :: _) _ _
                 refine wpList_load_mid rfl 34 _ rfl b (off + id * 8) rfl x.cs _ HR.out Try.underlying34 rfl (by rw [Nd.cs_length]; kernel_rfl) ?_)
              | (with_reducible show wpList _ _ _ ({ dst := none, op := .store _ _ _, type := _, pos := _, after := _, guard := _ } :: _) _ _
                 refine wpList_store_row rfl 34 _ _ rfl w.heap.size x.cs.toArray rfl rfl 34 Nd.zero.cs.toArray (At.new _ _ _) (by kernel_rfl) rfl hone ?_
                 change Exit.then _ _ _ _ (boxN w x))
              | fail)
            go_ret
            exact ⟨by rw [HS.out]; simp [HKd.out, HKa.out, HKb.out, hak, hbk], HBb.out⟩
      by_cases hk6 : x.kind = 6
      · have HKd := Lib.hid hk6
        rw [hk6] at ck
        clear hk6
        have hab := HOK.out.2.2.1 (by have := HKd.out; omega)
        obtain ⟨ka, hka⟩ : ∃ q : Nat, x.a = (q : Int) := ⟨x.a.toNat, by omega⟩
        rw [hka] at c5
        have HKa := Lib.hid hka
        by_cases hak : k ≤ ka
        · have ta1 : (k : Int) ≤ (ka : Int) := by omega
          have ta2 : decide ((k : Int) ≤ (ka : Int)) = true := decide_eq_true ta1
          have ta3 : decide (k ≤ ka) = true := decide_eq_true hak
          have HTa := Lib.hid ta2
          have hka1 : ka < f := by omega
          have hka2 : ka < ns.length := by omega
          clear hka hab
          go_wp2_with (first
            | (with_reducible show wpList _ _ _ ({ dst := some 14, op := .load _ _, type := _, pos := _, after := _, guard := _ } :: _) _ _
               refine wpList_load_mid rfl 34 _ rfl b (off + id * 8) rfl x.cs _ HR.out Try.underlying34 rfl (by rw [Nd.cs_length]; kernel_rfl) ?_)
            | (with_reducible show wpList _ _ _ ({ dst := none, op := .store _ _ _, type := _, pos := _, after := _, guard := _ } :: _) _ _
               refine wpList_store_row rfl 34 _ _ rfl w.heap.size x.cs.toArray rfl rfl 34 Nd.zero.cs.toArray (At.new _ _ _) (by kernel_rfl) rfl hone ?_
               change Exit.then _ _ _ _ (boxN w x))
            | fail)
          refine (HIH.out ka (boxN w x) (by omega) (by omega) HVb.out).mono ?_
          rintro e w3 ⟨rfl, hba⟩
          obtain ⟨va, hva⟩ : ∃ v, belowS ns k f (ka : Int) = v := ⟨_, rfl⟩
          have HVa := Lib.hid hva
          rw [hva]
          clear hva
          go_wp2_with fail
          go_ret
          exact ⟨by rw [HS.out]; simp [HKd.out, HKa.out, hak, HVa.out], HBb.out.trans (hba.mono HBb.out.size)⟩
        · have ta1 : ¬ (k : Int) ≤ (ka : Int) := by omega
          have ta2 : decide ((k : Int) ≤ (ka : Int)) = false := decide_eq_false ta1
          have ta3 : decide (k ≤ ka) = false := decide_eq_false hak
          have HTa := Lib.hid ta2
          clear hka hab
          go_wp2_with (first
            | (with_reducible show wpList _ _ _ ({ dst := some 14, op := .load _ _, type := _, pos := _, after := _, guard := _ } :: _) _ _
               refine wpList_load_mid rfl 34 _ rfl b (off + id * 8) rfl x.cs _ HR.out Try.underlying34 rfl (by rw [Nd.cs_length]; kernel_rfl) ?_)
            | (with_reducible show wpList _ _ _ ({ dst := none, op := .store _ _ _, type := _, pos := _, after := _, guard := _ } :: _) _ _
               refine wpList_store_row rfl 34 _ _ rfl w.heap.size x.cs.toArray rfl rfl 34 Nd.zero.cs.toArray (At.new _ _ _) (by kernel_rfl) rfl hone ?_
               change Exit.then _ _ _ _ (boxN w x))
            | fail)
          go_ret
          exact ⟨by rw [HS.out]; simp [HKd.out, HKa.out, hak], HBb.out⟩
      by_cases hk7 : x.kind = 7
      · have HKd := Lib.hid hk7
        rw [hk7] at ck
        clear hk7
        have hab := HOK.out.2.2.1 (by have := HKd.out; omega)
        obtain ⟨ka, hka⟩ : ∃ q : Nat, x.a = (q : Int) := ⟨x.a.toNat, by omega⟩
        rw [hka] at c5
        have HKa := Lib.hid hka
        by_cases hak : k ≤ ka
        · have ta1 : (k : Int) ≤ (ka : Int) := by omega
          have ta2 : decide ((k : Int) ≤ (ka : Int)) = true := decide_eq_true ta1
          have ta3 : decide (k ≤ ka) = true := decide_eq_true hak
          have HTa := Lib.hid ta2
          have hka1 : ka < f := by omega
          have hka2 : ka < ns.length := by omega
          clear hka hab
          go_wp2_with (first
            | (with_reducible show wpList _ _ _ ({ dst := some 14, op := .load _ _, type := _, pos := _, after := _, guard := _ } :: _) _ _
               refine wpList_load_mid rfl 34 _ rfl b (off + id * 8) rfl x.cs _ HR.out Try.underlying34 rfl (by rw [Nd.cs_length]; kernel_rfl) ?_)
            | (with_reducible show wpList _ _ _ ({ dst := none, op := .store _ _ _, type := _, pos := _, after := _, guard := _ } :: _) _ _
               refine wpList_store_row rfl 34 _ _ rfl w.heap.size x.cs.toArray rfl rfl 34 Nd.zero.cs.toArray (At.new _ _ _) (by kernel_rfl) rfl hone ?_
               change Exit.then _ _ _ _ (boxN w x))
            | fail)
          refine (HIH.out ka (boxN w x) (by omega) (by omega) HVb.out).mono ?_
          rintro e w3 ⟨rfl, hba⟩
          obtain ⟨va, hva⟩ : ∃ v, belowS ns k f (ka : Int) = v := ⟨_, rfl⟩
          have HVa := Lib.hid hva
          rw [hva]
          clear hva
          go_wp2_with fail
          go_ret
          exact ⟨by rw [HS.out]; simp [HKd.out, HKa.out, hak, HVa.out], HBb.out.trans (hba.mono HBb.out.size)⟩
        · have ta1 : ¬ (k : Int) ≤ (ka : Int) := by omega
          have ta2 : decide ((k : Int) ≤ (ka : Int)) = false := decide_eq_false ta1
          have ta3 : decide (k ≤ ka) = false := decide_eq_false hak
          have HTa := Lib.hid ta2
          clear hka hab
          go_wp2_with (first
            | (with_reducible show wpList _ _ _ ({ dst := some 14, op := .load _ _, type := _, pos := _, after := _, guard := _ } :: _) _ _
               refine wpList_load_mid rfl 34 _ rfl b (off + id * 8) rfl x.cs _ HR.out Try.underlying34 rfl (by rw [Nd.cs_length]; kernel_rfl) ?_)
            | (with_reducible show wpList _ _ _ ({ dst := none, op := .store _ _ _, type := _, pos := _, after := _, guard := _ } :: _) _ _
               refine wpList_store_row rfl 34 _ _ rfl w.heap.size x.cs.toArray rfl rfl 34 Nd.zero.cs.toArray (At.new _ _ _) (by kernel_rfl) rfl hone ?_
               change Exit.then _ _ _ _ (boxN w x))
            | fail)
          go_ret
          exact ⟨by rw [HS.out]; simp [HKd.out, HKa.out, hak], HBb.out⟩
      have hb3 := (int_ne hk3).1
      have h3 := Lib.hid hk3
      have hb4 := (int_ne hk4).1
      have h4 := Lib.hid hk4
      have hb5 := (int_ne hk5).1
      have h5 := Lib.hid hk5
      have hb6 := (int_ne hk6).1
      have h6 := Lib.hid hk6
      have hb7 := (int_ne hk7).1
      have h7 := Lib.hid hk7
      clear hk3 hk4 hk5 hk6 hk7
      go_wp2_with (first
        | (with_reducible show wpList _ _ _ ({ dst := some 14, op := .load _ _, type := _, pos := _, after := _, guard := _ } :: _) _ _
           refine wpList_load_mid rfl 34 _ rfl b (off + id * 8) rfl x.cs _ HR.out Try.underlying34 rfl (by rw [Nd.cs_length]; kernel_rfl) ?_)
        | (with_reducible show wpList _ _ _ ({ dst := none, op := .store _ _ _, type := _, pos := _, after := _, guard := _ } :: _) _ _
           refine wpList_store_row rfl 34 _ _ rfl w.heap.size x.cs.toArray rfl rfl 34 Nd.zero.cs.toArray (At.new _ _ _) (by kernel_rfl) rfl hone ?_
           change Exit.then _ _ _ _ (boxN w x))
        | fail)
      go_ret
      exact ⟨by rw [HS.out]; simp [h3.out, h4.out, h5.out, h6.out, h7.out], HBb.out⟩

end Go.Proofs.Ytoicbahkoejhjaa
