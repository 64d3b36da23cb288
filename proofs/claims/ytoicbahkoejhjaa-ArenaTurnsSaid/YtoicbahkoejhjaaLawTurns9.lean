/- bolterlaw09.ArenaTurns, by what an arena does. -/
import Derived.Test.YtoicbahkoejhjaaLawPuts9
import Derived.Test.YtoicbahkoejhjaaTurnTwice
import Derived.Test.YtoicbahkoejhjaaNodeSpans
import Derived.Test.YtoicbahkoejhjaaPlaces
import Derived.Test.YtoicbahkoejhjaaRevBoth
import Derived.Deep.QuietTactic
import Derived.Deep.RegionHeld3
import Derived.BigQuiet
namespace Go.Proofs.Ytoicbahkoejhjaa
open Go.RowKit
set_option linter.unusedSimpArgs false
set_option linter.unusedVariables false
theorem OffF.cell {F : Nat → Prop} {w w' : World} (ho : OffF F w w') {b o : Nat} (hlt : b < w.heap.size) (hn : ¬ F b) : w'.cell? ⟨b, o, none⟩ = w.cell? ⟨b, o, none⟩ := by
  unfold World.cell?
  rw [ho.block b hlt hn]
theorem IsBytes.off {F : Nat → Prop} {w w' : World} {A : Option Addr} {n : Nat} {l : List Nat} (h : IsBytes w A n l) (ho : OffF F w w') (hn : ∀ b o, A = some ⟨b, o, none⟩ → ¬ F b) : IsBytes w' A n l :=
  ⟨h.1, h.2.1, h.2.2.1, fun h0 => by
    obtain ⟨b, off, e, hlt, hc⟩ := h.2.2.2 h0
    exact ⟨b, off, e, Nat.lt_of_lt_of_le hlt ho.size, fun k hk => (ho.cell hlt (hn b off e)).trans (hc k hk)⟩⟩
theorem spans9 (nm : List Nd) (l bits : List Nat) (A7 A B : Option Addr) (c7 ca cb n N i : Nat) (hn : n = l.length) (hN : N = n + 1) (h100 : n ≤ 100) (hnm : nm.length ≤ 1000) (hok : ∀ j, j < nm.length → NdOk (ndAt nm j) j) (hi : i < nm.length) (w0 : World)
    (hv : NdsAt w0 (.slice A7 nm.length c7) nm) (hb : IsBytes w0 A n l) (hbits : IsBytes w0 B N bits) :
    Calls Try.prog 19 #[.slice A7 nm.length c7, .slice A n ca, .slice B N cb] w0 fun e w' => ∃ g m cap ga ra, e = .returned (.slice (some ⟨g, 0, none⟩) m cap) ∧ i < m ∧ w'.cell? ⟨g, i, none⟩ = some (.slice (some ⟨ga, 0, none⟩) N N) ∧ TabAt w' 50 4 w0.heap.size ga N ra (nodeT l bits nm i) ∧ g < w'.heap.size ∧ Below w0.heap.size w0 w' := by
  subst hn
  refine (refNodeSpans nm l bits _ A B ca cb N hN h100 (by omega) hok w0 hv hb hbits).mono ?_
  rintro e w' ⟨v, ts, rfl, hts, hbl⟩
  have hlen := hts.len
  rw [nodesF_length] at hlen
  obtain ⟨g, cap, rfl, _, hg⟩ := hts.form (by omega)
  have h1 : i < ts.length := by omega
  have h2 : i < (nodesF l bits nm nm.length).length := by rw [nodesF_length]; exact hi
  have ht := hts.tab i h1 h2
  have hc := hts.cell i h1
  have e : nodeT l bits nm i = (nodesF l bits nm nm.length)[i] := by unfold nodeT fAt; rw [Int.toNat_natCast, List.getElem?_eq_getElem h2]; rfl
  rw [← e] at ht
  exact ⟨g, _, cap, _, _, rfl, h1, hc, ht, hg, hbl⟩
theorem turned_at {l bits : List Nat} {nm : List Nd} {n N f : Nat} {i x : Int} (hn : n = l.length) (hN : N = n + 1) (hl : bits.length = N) (hok : ∀ j, j < nm.length → NdOk (ndAt nm j) j) (h : TurnR nm f i x) (a b : Nat) (ha : a ≤ n) (hb : b ≤ n) :
    nodeT l.reverse bits.reverse nm x (n - b) (n - a) = nodeT l bits nm i a b := by
  have := turn_tables l bits nm (by omega) hok f i x h (n - b) (n - a) (by omega) (by omega)
  rw [this]
  unfold flipF
  rw [show l.length + 1 - 1 - (n - a) = a by omega, show l.length + 1 - 1 - (n - b) = b by omega]
theorem NdsAt.drew {w : World} {v : Value} {l : List Nd} (h : NdsAt w v l) : NdsAt w.drew v l := h
section
variable {AA : World → Value → List Nd → (Nat → Prop) → Prop}

set_option maxRecDepth 100000 in
set_option maxHeartbeats 32000000 in
theorem lawTurns9 (S : ArenaSpec AA) (ls : List Nd) (v0 : Value) (id : Int) (A B : Option Addr) (n m ca cb : Nat) (l sn : List Nat) (w : World) (hv : NdsAt w v0 ls) (hf : ∀ j, j < ls.length → NdFit (ndAt ls j)) (hid : I64 id) (hb : IsBytes w A n l) (hs : IsBytes w B m sn) :
    Calls Try.prog 4 #[v0, .int .i64 id, .slice A n ca, .slice B m cb] w fun e w' => e = .returned (.bool true) ∧ Below w.heap.size w w' := by
  have HV := Lib.hid hv
  have h63 : ls.length ≤ 9223372036854775807 := hv.choose_spec.choose_spec.2.1
  obtain ⟨A0, c0, rfl, _, _⟩ := HV.out
  have HF := Lib.hid hf
  have HI := Lib.hid hid
  have HBy := Lib.hid hb
  have HSn := Lib.hid hs
  have HLn := Lib.hid hb.1
  have hn63 : n ≤ 9223372036854775807 := hb.2.1
  clear hv hf hb hs
  obtain ⟨vf, hvf⟩ : ∃ v, decide (ls.length ≤ 40) = v := ⟨_, rfl⟩
  have HVf := Lib.hid hvf
  clear hvf
  go_enter Try.func4, Try.ntmps4
  go_wp2_with fail
  refine (lawAwake9 S w).mono ?_
  rintro e w1 ⟨rfl, hB1⟩
  have HB1 := Lib.hid hB1
  clear hB1
  go_wp2_with fail
  refine (fewN _ _ _ w1 vf HVf.out).mono ?_
  rintro e w2 ⟨rfl, rfl⟩
  cases vf
  · go_wp2_with fail
    refine (lawAwake9 S w1).mono ?_
    rintro e w2 ⟨rfl, hB2⟩
    have HB2 := Lib.hid (HB1.out.trans (hB2.mono HB1.out.size))
    clear hB2
    go_wp2_with fail
    go_ret
    exact ⟨rfl, HB2.out⟩
  by_cases hlong : 8 < n
  · have hlong1 : decide (8 < n) = true := decide_eq_true hlong
    have hlong2 : (8 : Int) < (n : Int) := by omega
    go_wp2_with fail
    refine (lawAwake9 S w1).mono ?_
    rintro e w2 ⟨rfl, hB2⟩
    have HB2 := Lib.hid (HB1.out.trans (hB2.mono HB1.out.size))
    clear hB2
    go_wp2_with fail
    go_ret
    exact ⟨rfl, HB2.out⟩
  have hlong1 : decide (8 < n) = false := decide_eq_false hlong
  have hlong2 : ¬ (8 : Int) < (n : Int) := by omega
  have h40 : ls.length ≤ 40 := of_decide_eq_true HVf.out
  go_wp2_with fail
  refine (lawMade S ls _ (by omega) w1 (HV.out.next HB1.out) HF.out).mono ?_
  rintro e w2 ⟨a, F, rfl, hA2, hF2, hB2⟩
  have HA2 := Lib.hid hA2
  have HG2 : Hid (∀ b, F b → w.heap.size ≤ b) := Lib.hid (fun b q => Nat.le_trans HB1.out.size (hF2 b q))
  have HB2 := Lib.hid (HB1.out.trans (hB2.mono HB1.out.size))
  clear hA2 hF2 hB2
  have hns := made_le ls
  obtain ⟨ns, hnse⟩ : ∃ ns, madeS ls = ns := ⟨_, rfl⟩
  rw [hnse] at HA2 hns
  clear hnse
  have hn40 : ns.length ≤ 40 := by omega
  go_wp2_with fail
  refine (S.len HA2.out (by omega)).mono ?_
  rintro e w3 ⟨rfl, q3, rfl⟩
  have HA3 : Hid (AA (w2.drewN q3) a ns F) := Lib.hid (S.keep HA2.out (fun _ _ => rfl))
  have HB3 := Lib.hid (below_drewN' HB2.out q3)
  obtain ⟨w3, hw3⟩ : ∃ w3, w3 = w2.drewN q3 := ⟨_, rfl⟩
  rw [← hw3] at HA3 HB3 ⊢
  clear hw3
  go_wp2_with fail
  refine (S.turn id HA3.out HI.out (by omega)).mono ?_
  rintro e w4 ⟨x, more, F4, rfl, hA4, hmore, hF4, ho4, hout4, hin4⟩
  have HA4 := Lib.hid hA4
  have HG4 : Hid (∀ b, F4 b → w.heap.size ≤ b) := Lib.hid (fun b q => by rcases hF4 b q with h | h; exact HG2.out b h; exact Nat.le_trans HB3.out.size h)
  have HB4 := Lib.hid (HB3.out.trans (ho4.below HG2.out HB3.out.size))
  have HOut := Lib.hid hout4
  have HIn := Lib.hid hin4
  clear hA4 hF4 ho4 hout4 hin4
  by_cases hneg : id < 0 ∨ (ns.length : Int) ≤ id
  · obtain ⟨hx, hm0⟩ := HOut.out (by omega)
    subst hx
    subst hm0
    rw [List.append_nil] at HA4
    by_cases hneg1 : id < 0
    · have hneg2 : decide (id < 0) = true := decide_eq_true hneg1
      go_wp2_with fail
      refine (S.len HA4.out (by omega)).mono ?_
      rintro e w5 ⟨rfl, q5, rfl⟩
      go_wp2_with fail
      go_ret
      exact ⟨rfl, below_drewN' HB4.out q5⟩
    · have hneg2 : decide (id < 0) = false := decide_eq_false hneg1
      have hbig1 : (ns.length : Int) ≤ id := by omega
      have hbig2 : decide ((ns.length : Int) ≤ id) = true := decide_eq_true hbig1
      go_wp2_with fail
      refine (S.len HA4.out (by omega)).mono ?_
      rintro e w5 ⟨rfl, q5, rfl⟩
      go_wp2_with fail
      go_ret
      exact ⟨rfl, below_drewN' HB4.out q5⟩
  have hneg1 : ¬ id < 0 := by omega
  have hneg2 : decide (id < 0) = false := decide_eq_false hneg1
  have hbig1 : ¬ (ns.length : Int) ≤ id := by omega
  have hbig2 : decide ((ns.length : Int) ≤ id) = false := decide_eq_false hbig1
  obtain ⟨i0, rfl⟩ : ∃ i0 : Nat, id = (i0 : Int) := ⟨id.toNat, by omega⟩
  have hbig3 : decide (ns.length ≤ i0) = false := decide_eq_false (by omega)
  have hbig4 : ¬ ns.length ≤ i0 := by omega
  obtain ⟨f4, ht4⟩ := HIn.out (by omega)
  have hti := turn_in ht4
  obtain ⟨x0, rfl⟩ : ∃ x0 : Nat, x = (x0 : Int) := ⟨x.toNat, by omega⟩
  have HT4 := Lib.hid ht4
  have hnm : (ns ++ more).length ≤ 80 := by rw [List.length_append]; omega
  have hi0 : i0 < (ns ++ more).length := by omega
  have hx0 : x0 < (ns ++ more).length := by omega
  obtain ⟨nm, hnme⟩ : ∃ nm, ns ++ more = nm := ⟨_, rfl⟩
  rw [hnme] at HA4 HT4 hnm hi0 hx0
  have HFn := Lib.hid (S.fine HA4.out)
  clear ht4 hti hnme hneg HOut HIn hmore
  obtain ⟨N, hN⟩ : ∃ N, N = n + 1 := ⟨_, rfl⟩
  have HN := Lib.hid hN
  have hN9 : N ≤ 9 := by omega
  clear hN
  go_wp2_with fail
  have e2 : (n : Int) + 1 = ((N : Nat) : Int) := by have := HN.out; omega
  rw [e2]
  clear e2
  refine (lawPlaces B m cb sn N (by omega) w4 (HSn.out.below HB4.out)).mono ?_
  rintro e w5 ⟨gb, rfl, hpl, hgb, hb5⟩
  have HPl := Lib.hid hpl
  have HB45 := Lib.hid hb5
  have HA5 := Lib.hid (S.next HA4.out hb5)
  have HB5 := Lib.hid (HB4.out.trans (hb5.mono HB4.out.size))
  clear hpl hb5
  go_wp2_with fail
  refine (lawRevBoth A (some ⟨gb, 0, none⟩) n N ca N l (placesS sn N) (by omega) (by omega) w5 (HBy.out.below HB5.out) HPl.out).mono ?_
  rintro e w6 ⟨Ar, cr, Br, dr, rfl, hr1, hr2, hlo1, hlo2, hb6⟩
  have HR1 := Lib.hid hr1
  have HR2 := Lib.hid hr2
  have HPl6 := Lib.hid (HPl.out.below hb6)
  have HB56 := Lib.hid hb6
  have HA6 := Lib.hid (S.next HA5.out hb6)
  have HB6 := Lib.hid (HB5.out.trans (hb6.mono HB5.out.size))
  clear hr1 hr2 hb6
  go_wp2_with fail
  refine (refNodes S nm a F4 (by omega) w6 HA6.out).mono ?_
  rintro e w7 ⟨v7, rfl, hr7, hb7⟩
  have HR7 := Lib.hid (hr7.nds (by omega))
  have hoff7 := hr7.low
  have HR17 := Lib.hid (HR1.out.below hb7)
  have HR27 := Lib.hid (HR2.out.below hb7)
  have HPl7 := Lib.hid (HPl6.out.below hb7)
  have HA7 := Lib.hid (S.next HA6.out hb7)
  have HB7 := Lib.hid (HB6.out.trans (hb7.mono HB6.out.size))
  have HRow := Lib.hid hr7
  obtain ⟨A7, c7, hv7⟩ := hr7.len
  subst hv7
  clear hr7 hb7
  have k1 : ¬ (x0 : Int) < 0 := by omega
  have k2 : decide ((x0 : Int) < 0) = false := decide_eq_false k1
  have k3 : ¬ (nm.length : Int) ≤ (x0 : Int) := by omega
  have k4 : decide ((nm.length : Int) ≤ (x0 : Int)) = false := decide_eq_false k3
  have k5 : decide (nm.length ≤ x0) = false := decide_eq_false (by omega)
  go_wp2_with fail
  refine (S.turn (x0 : Int) HA7.out (by unfold I64; omega) (by omega)).mono ?_
  rintro e w8 ⟨y, more2, F8, rfl, hA8, hmore2, hF8, ho8, _, hin8⟩
  obtain ⟨f8, ht8⟩ := hin8 (by omega)
  have hyi : y = (i0 : Int) := turn_twice (S.fine hA8) _ _ _ _ _ (turn_more more2 _ _ _ HT4.out) ht8
  subst hyi
  have hlo4 : ∀ b, F4 b → b < w4.heap.size := S.low HA4.out
  have hs45 := HB45.out.size
  have hs56 := HB56.out.size
  have HBy8 := Lib.hid (HBy.out.below (HB7.out.trans (ho8.below (fun b q => HG4.out b q) HB7.out.size)))
  have HPl8 : Hid (IsBytes w8 (some ⟨gb, 0, none⟩) N (placesS sn N)) := Lib.hid (HPl7.out.off ho8 (fun b o e q => by injection e with e; injection e with e; subst e; have := hlo4 _ q; omega))
  have HR18 : Hid (IsBytes w8 Ar n l.reverse) := Lib.hid (HR17.out.off ho8 (fun b o e q => by have := hlo1 b o e; have := hlo4 _ q; omega))
  have HR28 : Hid (IsBytes w8 Br N (placesS sn N).reverse) := Lib.hid (HR27.out.off ho8 (fun b o e q => by have := hlo2 b o e; have := hlo4 _ q; omega))
  have HN8 : Hid (NdsAt w8 (.slice A7 nm.length c7) nm) := Lib.hid ((HRow.out.off ho8 (fun b q e => by have := hoff7 b e; have := hlo4 _ q; omega)).nds (by omega))
  have HB8 := Lib.hid (HB7.out.trans (ho8.below (fun b q => HG4.out b q) HB7.out.size))
  have HOK : Hid (∀ j, j < nm.length → NdOk (ndAt nm j) j) := Lib.hid HFn.out.ok
  have HS1 : Hid (∀ w0, NdsAt w0 (.slice A7 nm.length c7) nm → IsBytes w0 A n l → IsBytes w0 (some ⟨gb, 0, none⟩) N (placesS sn N) → Calls Try.prog 19 #[.slice A7 nm.length c7, .slice A n ca, .slice (some ⟨gb, 0, none⟩) N N] w0 fun e w' => ∃ g m cap ga ra, e = .returned (.slice (some ⟨g, 0, none⟩) m cap) ∧ i0 < m ∧ w'.cell? ⟨g, i0, none⟩ = some (.slice (some ⟨ga, 0, none⟩) N N) ∧ TabAt w' 50 4 w0.heap.size ga N ra (nodeT l (placesS sn N) nm i0) ∧ g < w'.heap.size ∧ Below w0.heap.size w0 w') := Lib.hid (fun w0 h1 h2 h3 => spans9 nm l (placesS sn N) A7 A (some ⟨gb, 0, none⟩) c7 ca N n N i0 HLn.out HN.out (by omega) (by omega) HOK.out hi0 w0 h1 h2 h3)
  have HS2 : Hid (∀ w0, NdsAt w0 (.slice A7 nm.length c7) nm → IsBytes w0 Ar n l.reverse → IsBytes w0 Br N (placesS sn N).reverse → Calls Try.prog 19 #[.slice A7 nm.length c7, .slice Ar n cr, .slice Br N dr] w0 fun e w' => ∃ g m cap ga ra, e = .returned (.slice (some ⟨g, 0, none⟩) m cap) ∧ x0 < m ∧ w'.cell? ⟨g, x0, none⟩ = some (.slice (some ⟨ga, 0, none⟩) N N) ∧ TabAt w' 50 4 w0.heap.size ga N ra (nodeT l.reverse (placesS sn N).reverse nm x0) ∧ g < w'.heap.size ∧ Below w0.heap.size w0 w') := Lib.hid (fun w0 h1 h2 h3 => spans9 nm l.reverse (placesS sn N).reverse A7 Ar Br c7 cr dr n N x0 (by rw [List.length_reverse]; exact HLn.out) HN.out (by omega) (by omega) HOK.out hx0 w0 h1 h2 h3)
  have HEq : Hid (∀ a b, a ≤ n → b ≤ n → nodeT l.reverse (placesS sn N).reverse nm x0 (n - b) (n - a) = nodeT l (placesS sn N) nm i0 a b) := Lib.hid (fun a b ha hb => turned_at HLn.out HN.out (placesS_length sn N) HOK.out HT4.out a b ha hb)
  clear hA8 hF8 ho8 hin8 ht8 hlo4 hs45 hs56 hlo1 hlo2 hoff7 hgb hmore2
  obtain ⟨Fa, hFa⟩ : ∃ f, f = nodeT l (placesS sn N) nm i0 := ⟨_, rfl⟩
  obtain ⟨Fb, hFb⟩ : ∃ f, f = nodeT l.reverse (placesS sn N).reverse nm x0 := ⟨_, rfl⟩
  rw [← hFa] at HS1 HEq
  rw [← hFb] at HS2 HEq
  clear hFa hFb
  go_wp2_with fail
  have hn := HN8.out
  have hby := HBy8.out
  have hpl := HPl8.out
  have hr1 := HR18.out
  have hr2 := HR28.out
  have hB := HB8.out
  have hz1 : (0 : Int) ≤ (i0 : Int) := by omega
  have hz2 : (0 : Int) ≤ (x0 : Int) := by omega
  clear HN8 HBy8 HPl8 HR18 HR28 HB8
  refine wp_region_noPanic ?_
  refine wp_region_held_drew (S := (fun _ => True)) (by kernel_rfl) (by trivial) (fun hHeld => ?_)
  refine wpAnyH_take (i := 0) (oi := ⟨some 83, _, _, _, _, _⟩) (v := ?_) rfl (by kernel_rfl) (by kernel_rfl) (by kernel_rfl) (fun _ _ _ h => h) (Or.inl ⟨by rfl, ?_⟩) (by exact hHeld) ?_
  rotate_left
  · (intro w hSw; (try dsimp only at hSw); go_simp; try (with_reducible rfl))
  simp only [Act.put, List.setIfInBounds_toArray, List.set_cons_zero, List.set_cons_succ]
  refine wpAnyH_take (i := 1) (oi := ⟨some 84, _, _, _, _, _⟩) (v := ?_) rfl (by kernel_rfl) (by kernel_rfl) (by kernel_rfl) (fun _ _ _ h => h) (Or.inl ⟨by rfl, ?_⟩) (by exact hHeld) ?_
  rotate_left
  · (intro w hSw; (try dsimp only at hSw); go_simp; try (with_reducible rfl))
  simp only [Act.put, List.setIfInBounds_toArray, List.set_cons_zero, List.set_cons_succ]
  refine wpAnyH_take (i := 2) (oi := ⟨some 85, _, _, _, _, _⟩) (v := ?_) rfl (by kernel_rfl) (by kernel_rfl) (by kernel_rfl) (fun _ _ _ h => h) (Or.inl ⟨by rfl, ?_⟩) (by exact hHeld) ?_
  rotate_left
  · (intro w hSw; (try dsimp only at hSw); go_simp; try (with_reducible rfl))
  simp only [Act.put, List.setIfInBounds_toArray, List.set_cons_zero, List.set_cons_succ]
  refine wpAnyH_take (i := 4) (oi := ⟨some 87, _, _, _, _, _⟩) (v := ?_) rfl (by kernel_rfl) (by kernel_rfl) (by kernel_rfl) (fun _ _ _ h => h) (Or.inl ⟨by rfl, ?_⟩) (by exact hHeld) ?_
  rotate_left
  · (intro w hSw; (try dsimp only at hSw); go_simp; try (with_reducible rfl))
  simp only [Act.put, List.setIfInBounds_toArray, List.set_cons_zero, List.set_cons_succ]
  refine wpAnyH_take (i := 7) (oi := ⟨some 90, _, _, _, _, _⟩) (v := ?_) rfl (by kernel_rfl) (by kernel_rfl) (by kernel_rfl) (fun _ _ _ h => h) (Or.inl ⟨by rfl, ?_⟩) (by exact hHeld) ?_
  rotate_left
  · (intro w hSw; (try dsimp only at hSw); go_simp; try (with_reducible rfl))
  simp only [Act.put, List.setIfInBounds_toArray, List.set_cons_zero, List.set_cons_succ]
  refine wpAnyH_take (i := 8) (oi := ⟨some 91, _, _, _, _, _⟩) (v := ?_) rfl (by kernel_rfl) (by kernel_rfl) (by kernel_rfl) (fun _ _ _ h => h) (Or.inl ⟨by rfl, ?_⟩) (by exact hHeld) ?_
  rotate_left
  · (intro w hSw; (try dsimp only at hSw); go_simp; try (with_reducible rfl))
  simp only [Act.put, List.setIfInBounds_toArray, List.set_cons_zero, List.set_cons_succ]
  refine wpAnyH_take (i := 9) (oi := ⟨some 92, _, _, _, _, _⟩) (v := ?_) rfl (by kernel_rfl) (by kernel_rfl) (by kernel_rfl) (fun _ _ _ h => h) (Or.inl ⟨by rfl, ?_⟩) (by exact hHeld) ?_
  rotate_left
  · (intro w hSw; (try dsimp only at hSw); go_simp; try (with_reducible rfl))
  simp only [Act.put, List.setIfInBounds_toArray, List.set_cons_zero, List.set_cons_succ]
  refine wpAnyH_take (i := 11) (oi := ⟨some 94, _, _, _, _, _⟩) (v := ?_) rfl (by kernel_rfl) (by kernel_rfl) (by kernel_rfl) (fun _ _ _ h => h) (Or.inl ⟨by rfl, ?_⟩) (by exact hHeld) ?_
  rotate_left
  · (intro w hSw; (try dsimp only at hSw); go_simp; try (with_reducible rfl))
  simp only [Act.put, List.setIfInBounds_toArray, List.set_cons_zero, List.set_cons_succ]
  refine wpAnyH_ready (rs := [3]) (by kernel_rfl) (by simp) ?_
  refine AllReadyH.cons (o := ⟨some 86, _, _, _, _, _⟩) rfl (fun K hK => ?_) AllReadyH.nil
  go_simp
  ((with_reducible refine (HS1.out _ hn.drew hby.drew hpl.drew).mono ?_))
  rintro e wa ⟨ga, ma, ka, pa, ra, rfl, hma, hca, hta, hga, hba⟩
  have hma1 : (i0 : Int) < (ma : Int) := by omega
  have hn := hn.drew.next hba
  have hr1 := hr1.drew.below hba
  have hr2 := hr2.drew.below hba
  have hB := below_step hB hba rfl rfl rfl rfl
  clear hma hba hby hpl
  dsimp only
  refine hK.out _ _ ?_ (fun hHeld => ?_)
  · trivial
  clear hK K
  try simp only [Act.put, List.setIfInBounds_toArray, List.set_cons_zero, List.set_cons_succ]
  refine wpAnyH_take (i := 5) (oi := ⟨some 88, _, _, _, _, _⟩) (v := ?_) rfl (by kernel_rfl) (by kernel_rfl) (by kernel_rfl) (fun _ _ _ h => h) (Or.inl ⟨by rfl, ?_⟩) (by exact hHeld) ?_
  rotate_left
  · (intro w hSw; (try dsimp only at hSw); go_simp; try (with_reducible rfl))
  simp only [Act.put, List.setIfInBounds_toArray, List.set_cons_zero, List.set_cons_succ]
  refine wpAnyH_ready (rs := [6, 10]) (by kernel_rfl) (by simp) ?_
  refine AllReadyH.cons (o := ⟨some 89, _, _, _, _, _⟩) rfl (fun K hK => ?_) ?_
  · go_simp
    refine hK.out _ _ ?_ (fun hHeld => ?_)
    · trivial
    clear hK K
    try simp only [Act.put, List.setIfInBounds_toArray, List.set_cons_zero, List.set_cons_succ]
    refine wpAnyH_ready (rs := [10]) (by kernel_rfl) (by simp) ?_
    refine AllReadyH.cons (o := ⟨some 93, _, _, _, _, _⟩) rfl (fun K hK => ?_) AllReadyH.nil
    go_simp
    ((with_reducible refine (HS2.out _ hn hr1 hr2).mono ?_))
    rintro e wb ⟨gb2, mb, kb, pb, rb, rfl, hmb, hcb, htb, hgb, hbb⟩
    have hmb1 : (x0 : Int) < (mb : Int) := by omega
    have hta := hta.step hbb rfl
    have hca := ((bcell hbb).1 ga i0 hga).trans hca
    have hB := below_step hB hbb rfl rfl rfl rfl
    clear hmb hbb hn hr1 hr2
    dsimp only
    refine hK.out _ _ ?_ (fun hHeld => ?_)
    · trivial
    clear hK K
    try simp only [Act.put, List.setIfInBounds_toArray, List.set_cons_zero, List.set_cons_succ]
    refine wpAnyH_take (i := 12) (oi := ⟨some 95, _, _, _, _, _⟩) (v := ?_) rfl (by kernel_rfl) (by kernel_rfl) (by kernel_rfl) (fun _ _ _ h => h) (Or.inl ⟨by rfl, ?_⟩) (by exact hHeld) ?_
    rotate_left
    · (intro w hSw; (try dsimp only at hSw); go_simp; try (with_reducible rfl))
    simp only [Act.put, List.setIfInBounds_toArray, List.set_cons_zero, List.set_cons_succ]
    refine wpAnyH_take (i := 14) (oi := ⟨some 16, _, _, _, _, _⟩) (v := ?_) rfl (by kernel_rfl) (by kernel_rfl) (by kernel_rfl) (fun _ _ _ h => h) (Or.inl ⟨by rfl, ?_⟩) (by exact hHeld) ?_
    rotate_left
    · (intro w hSw; (try dsimp only at hSw); go_simp; try (with_reducible rfl))
    simp only [Act.put, List.setIfInBounds_toArray, List.set_cons_zero, List.set_cons_succ]
    refine wpAnyH_ready (rs := [13]) (by kernel_rfl) (by simp) ?_
    refine AllReadyH.cons (o := ⟨some 96, _, _, _, _, _⟩) rfl (fun K hK => ?_) AllReadyH.nil
    go_simp
    refine hK.out _ _ ?_ (fun hHeld => ?_)
    · trivial
    clear hK K
    try simp only [Act.put, List.setIfInBounds_toArray, List.set_cons_zero, List.set_cons_succ]
    refine wpAnyH_take (i := 15) (oi := ⟨some 17, _, _, _, _, _⟩) (v := ?_) rfl (by kernel_rfl) (by kernel_rfl) (by kernel_rfl) (fun _ _ _ h => h) (Or.inl ⟨by rfl, ?_⟩) (by exact hHeld) ?_
    rotate_left
    · (intro w hSw; (try dsimp only at hSw); go_simp; try (with_reducible rfl))
    simp only [Act.put, List.setIfInBounds_toArray, List.set_cons_zero, List.set_cons_succ]
    refine wpAnyH_done (by kernel_rfl) ?_ _
    refine NoPanic.normal ?_
    have HTa := Lib.hid hta
    have HTb := Lib.hid htb
    have HBn := Lib.hid hB
    clear hta htb hB hca hcb hga hgb hma1 hmb1 hz1 hz2 hHeld
    go_wp2_with fail
    go_loopw [99] (fun iv wr => ∃ i : Nat, i ≤ N ∧ iv = .int .i64 i ∧ Hid (TabIn wr 50 4 pa N Fa) ∧ Hid (TabIn wr 50 4 pb N Fb) ∧ Hid (Below w.heap.size w wr)) (fun iv _ => N - (intOf iv).toNat)
    case atStart => exact ⟨0, Nat.zero_le _, rfl, Lib.hid HTa.out.tin, Lib.hid HTb.out.tin, HBn⟩
    case round =>
      clear HTa HTb HBn
      obtain ⟨i, hi, rfl, HTa, HTb, HB⟩ := hrel
      by_cases hlt : i < N
      · have hin : (i : Int) < (N : Int) := by omega
        have hi0' : (0 : Int) ≤ (i : Int) := by omega
        have hd1 : decide ((i : Int) < (N : Int)) = true := decide_eq_true hin
        obtain ⟨wo, hwo⟩ : ∃ wo : World, wo = wr := ⟨_, rfl⟩
        go_wp2_with fail
        go_loopw [19] (fun jv wr => ∃ j : Nat, (i ≤ j ∧ j ≤ N) ∧ jv = .int .i64 j ∧ Hid (TabIn wr 50 4 pa N Fa) ∧ Hid (TabIn wr 50 4 pb N Fb) ∧ Hid (Below w.heap.size w wr)) (fun jv _ => N - (intOf jv).toNat)
        case atStart => exact ⟨i, ⟨Nat.le_refl _, by omega⟩, rfl, HTa, HTb, HB⟩
        case round =>
          clear HTa HTb HB hwo
          obtain ⟨j, ⟨hj1, hj2⟩, rfl, HTa, HTb, HB⟩ := hrel
          by_cases hjlt : j < N
          · have hj0 : (0 : Int) ≤ (j : Int) := by omega
            have hjN : (j : Int) < (N : Int) := by omega
            have hdj : decide ((j : Int) < (N : Int)) = true := decide_eq_true hjN
            have hnN := HN.out
            obtain ⟨m1, hm1⟩ : ∃ m, m = n - j := ⟨_, rfl⟩
            obtain ⟨m2, hm2⟩ : ∃ m, m = n - i := ⟨_, rfl⟩
            have e1 : IntKind.i64.wrap ((n : Int) - (j : Int)) = (m1 : Int) := by rw [IntKind.wrap_i64]; omega
            have e2 : IntKind.i64.wrap ((n : Int) - (i : Int)) = (m2 : Int) := by rw [IntKind.wrap_i64]; omega
            have b1 : (m1 : Int) < (N : Int) := by omega
            have b2 : (m2 : Int) < (N : Int) := by omega
            have b3 : (0 : Int) ≤ (m1 : Int) := by omega
            have b4 : (0 : Int) ≤ (m2 : Int) := by omega
            have l1 : m1 < N := by omega
            have l2 : m2 < N := by omega
            have he := HEq.out i j (by omega) (by omega)
            rw [← hm1, ← hm2] at he
            obtain ⟨ra', hra⟩ := HTa.out
            obtain ⟨rb', hrb⟩ := HTb.out
            have q1 := hra.cellTop hlt
            have q2 := hra.cellRow hlt hjlt
            have q3 := hrb.cellTop l1
            have q4 := hrb.cellRow l1 l2
            rw [he] at q4
            obtain ⟨v, hv⟩ : ∃ v : Bool, Fa i j = v := ⟨_, rfl⟩
            rw [hv] at q2 q4
            have hvv : (v != v) = false := by cases v <;> rfl
            clear he hv hm1 hm2 hra hrb hnN
            go_wp2_with fail
            go_quiet (fail)
            have HTa2 : Hid (TabIn (wr.drewN nq) 50 4 pa N Fa) := Lib.hid (by obtain ⟨r, hr⟩ := HTa.out; exact ⟨r, hr.same rfl⟩)
            have HTb2 : Hid (TabIn (wr.drewN nq) 50 4 pb N Fb) := Lib.hid (by obtain ⟨r, hr⟩ := HTb.out; exact ⟨r, hr.same rfl⟩)
            have HB2 : Hid (Below w.heap.size w (wr.drewN nq)) := Lib.hid ⟨HB.out.os, HB.out.tape, HB.out.output, HB.out.size, HB.out.block⟩
            clear q1 q2 q3 q4
            go_wp2_with fail
            exact ⟨⟨j + 1, ⟨by omega, by omega⟩, by go_num, HTa2, HTb2, HB2⟩, by simp [intOf]; omega⟩
          · have hjn : ¬ (j : Int) < (N : Int) := by omega
            have hdj : decide ((j : Int) < (N : Int)) = false := decide_eq_false hjn
            go_wp2_with fail
            exact ⟨⟨i + 1, by omega, by go_num, HTa, HTb, HB⟩, by simp [intOf]; omega⟩
      · obtain rfl : i = N := by omega
        go_wp2_with fail
        go_ret
        exact ⟨rfl, HB.out⟩
  refine AllReadyH.cons (o := ⟨some 93, _, _, _, _, _⟩) rfl (fun K hK => ?_) AllReadyH.nil
  · go_simp
    ((with_reducible refine (HS2.out _ hn hr1 hr2).mono ?_))
    rintro e wb ⟨gb2, mb, kb, pb, rb, rfl, hmb, hcb, htb, hgb, hbb⟩
    have hmb1 : (x0 : Int) < (mb : Int) := by omega
    have hta := hta.step hbb rfl
    have hca := ((bcell hbb).1 ga i0 hga).trans hca
    have hB := below_step hB hbb rfl rfl rfl rfl
    clear hmb hbb hn hr1 hr2
    dsimp only
    refine hK.out _ _ ?_ (fun hHeld => ?_)
    · trivial
    clear hK K
    try simp only [Act.put, List.setIfInBounds_toArray, List.set_cons_zero, List.set_cons_succ]
    refine wpAnyH_take (i := 12) (oi := ⟨some 95, _, _, _, _, _⟩) (v := ?_) rfl (by kernel_rfl) (by kernel_rfl) (by kernel_rfl) (fun _ _ _ h => h) (Or.inl ⟨by rfl, ?_⟩) (by exact hHeld) ?_
    rotate_left
    · (intro w hSw; (try dsimp only at hSw); go_simp; try (with_reducible rfl))
    simp only [Act.put, List.setIfInBounds_toArray, List.set_cons_zero, List.set_cons_succ]
    refine wpAnyH_ready (rs := [6, 13]) (by kernel_rfl) (by simp) ?_
    refine AllReadyH.cons (o := ⟨some 89, _, _, _, _, _⟩) rfl (fun K hK => ?_) ?_
    · go_simp
      refine hK.out _ _ ?_ (fun hHeld => ?_)
      · trivial
      clear hK K
      try simp only [Act.put, List.setIfInBounds_toArray, List.set_cons_zero, List.set_cons_succ]
      refine wpAnyH_take (i := 14) (oi := ⟨some 16, _, _, _, _, _⟩) (v := ?_) rfl (by kernel_rfl) (by kernel_rfl) (by kernel_rfl) (fun _ _ _ h => h) (Or.inl ⟨by rfl, ?_⟩) (by exact hHeld) ?_
      rotate_left
      · (intro w hSw; (try dsimp only at hSw); go_simp; try (with_reducible rfl))
      simp only [Act.put, List.setIfInBounds_toArray, List.set_cons_zero, List.set_cons_succ]
      refine wpAnyH_ready (rs := [13]) (by kernel_rfl) (by simp) ?_
      refine AllReadyH.cons (o := ⟨some 96, _, _, _, _, _⟩) rfl (fun K hK => ?_) AllReadyH.nil
      go_simp
      refine hK.out _ _ ?_ (fun hHeld => ?_)
      · trivial
      clear hK K
      try simp only [Act.put, List.setIfInBounds_toArray, List.set_cons_zero, List.set_cons_succ]
      refine wpAnyH_take (i := 15) (oi := ⟨some 17, _, _, _, _, _⟩) (v := ?_) rfl (by kernel_rfl) (by kernel_rfl) (by kernel_rfl) (fun _ _ _ h => h) (Or.inl ⟨by rfl, ?_⟩) (by exact hHeld) ?_
      rotate_left
      · (intro w hSw; (try dsimp only at hSw); go_simp; try (with_reducible rfl))
      simp only [Act.put, List.setIfInBounds_toArray, List.set_cons_zero, List.set_cons_succ]
      refine wpAnyH_done (by kernel_rfl) ?_ _
      refine NoPanic.normal ?_
      have HTa := Lib.hid hta
      have HTb := Lib.hid htb
      have HBn := Lib.hid hB
      clear hta htb hB hca hcb hga hgb hma1 hmb1 hz1 hz2 hHeld
      go_wp2_with fail
      go_loopw [99] (fun iv wr => ∃ i : Nat, i ≤ N ∧ iv = .int .i64 i ∧ Hid (TabIn wr 50 4 pa N Fa) ∧ Hid (TabIn wr 50 4 pb N Fb) ∧ Hid (Below w.heap.size w wr)) (fun iv _ => N - (intOf iv).toNat)
      case atStart => exact ⟨0, Nat.zero_le _, rfl, Lib.hid HTa.out.tin, Lib.hid HTb.out.tin, HBn⟩
      case round =>
        clear HTa HTb HBn
        obtain ⟨i, hi, rfl, HTa, HTb, HB⟩ := hrel
        by_cases hlt : i < N
        · have hin : (i : Int) < (N : Int) := by omega
          have hi0' : (0 : Int) ≤ (i : Int) := by omega
          have hd1 : decide ((i : Int) < (N : Int)) = true := decide_eq_true hin
          obtain ⟨wo, hwo⟩ : ∃ wo : World, wo = wr := ⟨_, rfl⟩
          go_wp2_with fail
          go_loopw [19] (fun jv wr => ∃ j : Nat, (i ≤ j ∧ j ≤ N) ∧ jv = .int .i64 j ∧ Hid (TabIn wr 50 4 pa N Fa) ∧ Hid (TabIn wr 50 4 pb N Fb) ∧ Hid (Below w.heap.size w wr)) (fun jv _ => N - (intOf jv).toNat)
          case atStart => exact ⟨i, ⟨Nat.le_refl _, by omega⟩, rfl, HTa, HTb, HB⟩
          case round =>
            clear HTa HTb HB hwo
            obtain ⟨j, ⟨hj1, hj2⟩, rfl, HTa, HTb, HB⟩ := hrel
            by_cases hjlt : j < N
            · have hj0 : (0 : Int) ≤ (j : Int) := by omega
              have hjN : (j : Int) < (N : Int) := by omega
              have hdj : decide ((j : Int) < (N : Int)) = true := decide_eq_true hjN
              have hnN := HN.out
              obtain ⟨m1, hm1⟩ : ∃ m, m = n - j := ⟨_, rfl⟩
              obtain ⟨m2, hm2⟩ : ∃ m, m = n - i := ⟨_, rfl⟩
              have e1 : IntKind.i64.wrap ((n : Int) - (j : Int)) = (m1 : Int) := by rw [IntKind.wrap_i64]; omega
              have e2 : IntKind.i64.wrap ((n : Int) - (i : Int)) = (m2 : Int) := by rw [IntKind.wrap_i64]; omega
              have b1 : (m1 : Int) < (N : Int) := by omega
              have b2 : (m2 : Int) < (N : Int) := by omega
              have b3 : (0 : Int) ≤ (m1 : Int) := by omega
              have b4 : (0 : Int) ≤ (m2 : Int) := by omega
              have l1 : m1 < N := by omega
              have l2 : m2 < N := by omega
              have he := HEq.out i j (by omega) (by omega)
              rw [← hm1, ← hm2] at he
              obtain ⟨ra', hra⟩ := HTa.out
              obtain ⟨rb', hrb⟩ := HTb.out
              have q1 := hra.cellTop hlt
              have q2 := hra.cellRow hlt hjlt
              have q3 := hrb.cellTop l1
              have q4 := hrb.cellRow l1 l2
              rw [he] at q4
              obtain ⟨v, hv⟩ : ∃ v : Bool, Fa i j = v := ⟨_, rfl⟩
              rw [hv] at q2 q4
              have hvv : (v != v) = false := by cases v <;> rfl
              clear he hv hm1 hm2 hra hrb hnN
              go_wp2_with fail
              go_quiet (fail)
              have HTa2 : Hid (TabIn (wr.drewN nq) 50 4 pa N Fa) := Lib.hid (by obtain ⟨r, hr⟩ := HTa.out; exact ⟨r, hr.same rfl⟩)
              have HTb2 : Hid (TabIn (wr.drewN nq) 50 4 pb N Fb) := Lib.hid (by obtain ⟨r, hr⟩ := HTb.out; exact ⟨r, hr.same rfl⟩)
              have HB2 : Hid (Below w.heap.size w (wr.drewN nq)) := Lib.hid ⟨HB.out.os, HB.out.tape, HB.out.output, HB.out.size, HB.out.block⟩
              clear q1 q2 q3 q4
              go_wp2_with fail
              exact ⟨⟨j + 1, ⟨by omega, by omega⟩, by go_num, HTa2, HTb2, HB2⟩, by simp [intOf]; omega⟩
            · have hjn : ¬ (j : Int) < (N : Int) := by omega
              have hdj : decide ((j : Int) < (N : Int)) = false := decide_eq_false hjn
              go_wp2_with fail
              exact ⟨⟨i + 1, by omega, by go_num, HTa, HTb, HB⟩, by simp [intOf]; omega⟩
        · obtain rfl : i = N := by omega
          go_wp2_with fail
          go_ret
          exact ⟨rfl, HB.out⟩
    refine AllReadyH.cons (o := ⟨some 96, _, _, _, _, _⟩) rfl (fun K hK => ?_) AllReadyH.nil
    · go_simp
      refine hK.out _ _ ?_ (fun hHeld => ?_)
      · trivial
      clear hK K
      try simp only [Act.put, List.setIfInBounds_toArray, List.set_cons_zero, List.set_cons_succ]
      refine wpAnyH_ready (rs := [6]) (by kernel_rfl) (by simp) ?_
      refine AllReadyH.cons (o := ⟨some 89, _, _, _, _, _⟩) rfl (fun K hK => ?_) AllReadyH.nil
      go_simp
      refine hK.out _ _ ?_ (fun hHeld => ?_)
      · trivial
      clear hK K
      try simp only [Act.put, List.setIfInBounds_toArray, List.set_cons_zero, List.set_cons_succ]
      refine wpAnyH_take (i := 14) (oi := ⟨some 16, _, _, _, _, _⟩) (v := ?_) rfl (by kernel_rfl) (by kernel_rfl) (by kernel_rfl) (fun _ _ _ h => h) (Or.inl ⟨by rfl, ?_⟩) (by exact hHeld) ?_
      rotate_left
      · (intro w hSw; (try dsimp only at hSw); go_simp; try (with_reducible rfl))
      simp only [Act.put, List.setIfInBounds_toArray, List.set_cons_zero, List.set_cons_succ]
      refine wpAnyH_take (i := 15) (oi := ⟨some 17, _, _, _, _, _⟩) (v := ?_) rfl (by kernel_rfl) (by kernel_rfl) (by kernel_rfl) (fun _ _ _ h => h) (Or.inl ⟨by rfl, ?_⟩) (by exact hHeld) ?_
      rotate_left
      · (intro w hSw; (try dsimp only at hSw); go_simp; try (with_reducible rfl))
      simp only [Act.put, List.setIfInBounds_toArray, List.set_cons_zero, List.set_cons_succ]
      refine wpAnyH_done (by kernel_rfl) ?_ _
      refine NoPanic.normal ?_
      have HTa := Lib.hid hta
      have HTb := Lib.hid htb
      have HBn := Lib.hid hB
      clear hta htb hB hca hcb hga hgb hma1 hmb1 hz1 hz2 hHeld
      go_wp2_with fail
      go_loopw [99] (fun iv wr => ∃ i : Nat, i ≤ N ∧ iv = .int .i64 i ∧ Hid (TabIn wr 50 4 pa N Fa) ∧ Hid (TabIn wr 50 4 pb N Fb) ∧ Hid (Below w.heap.size w wr)) (fun iv _ => N - (intOf iv).toNat)
      case atStart => exact ⟨0, Nat.zero_le _, rfl, Lib.hid HTa.out.tin, Lib.hid HTb.out.tin, HBn⟩
      case round =>
        clear HTa HTb HBn
        obtain ⟨i, hi, rfl, HTa, HTb, HB⟩ := hrel
        by_cases hlt : i < N
        · have hin : (i : Int) < (N : Int) := by omega
          have hi0' : (0 : Int) ≤ (i : Int) := by omega
          have hd1 : decide ((i : Int) < (N : Int)) = true := decide_eq_true hin
          obtain ⟨wo, hwo⟩ : ∃ wo : World, wo = wr := ⟨_, rfl⟩
          go_wp2_with fail
          go_loopw [19] (fun jv wr => ∃ j : Nat, (i ≤ j ∧ j ≤ N) ∧ jv = .int .i64 j ∧ Hid (TabIn wr 50 4 pa N Fa) ∧ Hid (TabIn wr 50 4 pb N Fb) ∧ Hid (Below w.heap.size w wr)) (fun jv _ => N - (intOf jv).toNat)
          case atStart => exact ⟨i, ⟨Nat.le_refl _, by omega⟩, rfl, HTa, HTb, HB⟩
          case round =>
            clear HTa HTb HB hwo
            obtain ⟨j, ⟨hj1, hj2⟩, rfl, HTa, HTb, HB⟩ := hrel
            by_cases hjlt : j < N
            · have hj0 : (0 : Int) ≤ (j : Int) := by omega
              have hjN : (j : Int) < (N : Int) := by omega
              have hdj : decide ((j : Int) < (N : Int)) = true := decide_eq_true hjN
              have hnN := HN.out
              obtain ⟨m1, hm1⟩ : ∃ m, m = n - j := ⟨_, rfl⟩
              obtain ⟨m2, hm2⟩ : ∃ m, m = n - i := ⟨_, rfl⟩
              have e1 : IntKind.i64.wrap ((n : Int) - (j : Int)) = (m1 : Int) := by rw [IntKind.wrap_i64]; omega
              have e2 : IntKind.i64.wrap ((n : Int) - (i : Int)) = (m2 : Int) := by rw [IntKind.wrap_i64]; omega
              have b1 : (m1 : Int) < (N : Int) := by omega
              have b2 : (m2 : Int) < (N : Int) := by omega
              have b3 : (0 : Int) ≤ (m1 : Int) := by omega
              have b4 : (0 : Int) ≤ (m2 : Int) := by omega
              have l1 : m1 < N := by omega
              have l2 : m2 < N := by omega
              have he := HEq.out i j (by omega) (by omega)
              rw [← hm1, ← hm2] at he
              obtain ⟨ra', hra⟩ := HTa.out
              obtain ⟨rb', hrb⟩ := HTb.out
              have q1 := hra.cellTop hlt
              have q2 := hra.cellRow hlt hjlt
              have q3 := hrb.cellTop l1
              have q4 := hrb.cellRow l1 l2
              rw [he] at q4
              obtain ⟨v, hv⟩ : ∃ v : Bool, Fa i j = v := ⟨_, rfl⟩
              rw [hv] at q2 q4
              have hvv : (v != v) = false := by cases v <;> rfl
              clear he hv hm1 hm2 hra hrb hnN
              go_wp2_with fail
              go_quiet (fail)
              have HTa2 : Hid (TabIn (wr.drewN nq) 50 4 pa N Fa) := Lib.hid (by obtain ⟨r, hr⟩ := HTa.out; exact ⟨r, hr.same rfl⟩)
              have HTb2 : Hid (TabIn (wr.drewN nq) 50 4 pb N Fb) := Lib.hid (by obtain ⟨r, hr⟩ := HTb.out; exact ⟨r, hr.same rfl⟩)
              have HB2 : Hid (Below w.heap.size w (wr.drewN nq)) := Lib.hid ⟨HB.out.os, HB.out.tape, HB.out.output, HB.out.size, HB.out.block⟩
              clear q1 q2 q3 q4
              go_wp2_with fail
              exact ⟨⟨j + 1, ⟨by omega, by omega⟩, by go_num, HTa2, HTb2, HB2⟩, by simp [intOf]; omega⟩
            · have hjn : ¬ (j : Int) < (N : Int) := by omega
              have hdj : decide ((j : Int) < (N : Int)) = false := decide_eq_false hjn
              go_wp2_with fail
              exact ⟨⟨i + 1, by omega, by go_num, HTa, HTb, HB⟩, by simp [intOf]; omega⟩
        · obtain rfl : i = N := by omega
          go_wp2_with fail
          go_ret
          exact ⟨rfl, HB.out⟩
end

end Go.Proofs.Ytoicbahkoejhjaa
