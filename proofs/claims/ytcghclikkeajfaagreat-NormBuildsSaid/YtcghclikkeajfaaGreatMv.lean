/- Joined: ArenaAwake, NormAwake, LawPuts9, LawNulls10. -/
import Derived.Test.YtcghclikkeajfaaGreatMe
import Derived.Test.YtcghclikkeajfaaGreatMK
import Derived.Deep.QuietTactic
import Derived.BigQuiet
import Derived.Test.YtcghclikkeajfaaGreatNodeSpans
/- bolterlaw09.awake, by what an arena does. -/
namespace Go.Proofs.YtcghclikkeajfaaGreat
open Go.RowKit
set_option linter.unusedSimpArgs false
set_option linter.unusedVariables false
theorem noSt_ok : noSt.Ok := ⟨by show (0 : Nat) < _; decide, by show (0 : Nat) < _; decide, by show (0 : Nat) < _; decide, by show (0 : Nat) < _; decide⟩
section
variable {AA : World → Value → List Nd → (Nat → Prop) → Prop}

end

end Go.Proofs.YtcghclikkeajfaaGreat

/- bolterlaw10.awake, by what putting together does. -/
namespace Go.Proofs.YtcghclikkeajfaaGreat
open Go.RowKit
set_option linter.unusedSimpArgs false
set_option linter.unusedVariables false

theorem list_two (w : World) (x y : Int) (t : TypeId) : ListAt (w.alloc (.cells #[.int .i64 x, .int .i64 y] t)) (.slice (some ⟨w.heap.size, 0, none⟩) 2 2) [x, y] :=
  ⟨_, _, rfl, fun _ => ⟨w.heap.size, 0, rfl, by simp, fun j hj => by
    have h := (At.new w t #[.int .i64 x, .int .i64 y]).cell (0 + j)
    rw [h]
    have hj : j < 2 := hj
    have : j = 0 ∨ j = 1 := by omega
    rcases this with rfl | rfl <;> rfl⟩⟩
theorem mem_len_le {ns : List Nd} (hf : FineN ns) {k : Int} (hk : k = 4 ∨ k = 5) (hc : Canon ns) {x : Int} (hx : isIn ns x) : (mem ns k x).length ≤ ns.length := by
  have hp : (mem ns k x).Pairwise (· < ·) := by
    by_cases e : kd ns x = k
    · exact (hc.join k hk x hx e).2.1
    · rw [mem_leaf e]; exact List.pairwise_singleton _ _
  have hb : ∀ y ∈ mem ns k x, 0 ≤ y ∧ y < ns.length := fun y hy => (mem_in hf hk _ x (Nat.le_refl _) hx y hy).1
  have : ∀ (l : List Int) (lo : Int), l.Pairwise (· < ·) → (∀ y ∈ l, lo ≤ y ∧ y < ns.length) → (l.length : Int) ≤ max 0 ((ns.length : Int) - lo) := by
    intro l
    induction l with
    | nil => intro lo _ _; simp; omega
    | cons y l ih =>
      intro lo hp hb
      obtain ⟨h1, h2⟩ := List.pairwise_cons.1 hp
      have := ih (y + 1) h2 (fun z hz => ⟨by have := h1 z hz; omega, (hb z (List.mem_cons_of_mem _ hz)).2⟩)
      have hy := hb y (by simp)
      rw [List.length_cons]
      omega
  have := this _ 0 hp hb
  omega
section
variable {AA : World → Value → List Nd → (Nat → Prop) → Prop}
theorem null_empty {ns : List Nd} (hc : Canon ns) {bits : Nat} {x : Int} (hx : isIn ns x) (h : kd ns x = 1) : nullS ns bits x = true := by
  unfold nullS
  rw [decide_eq_true (show 0 ≤ x ∧ x < (ns.length : Int) from hx), Bool.true_and]
  obtain ⟨j, rfl⟩ : ∃ j : Nat, x = (j : Int) := ⟨x.toNat, by unfold isIn at hx; omega⟩
  rw [nodeT_eq [] [bits] ns (fun j hj => hc.fine.ok j hj) j (by unfold isIn at hx; omega)]
  unfold nodeF
  unfold kd at h
  rw [Int.toNat_natCast] at h
  rw [if_pos h]
  rfl
set_option maxRecDepth 100000 in
set_option maxHeartbeats 8000000 in
theorem lawAwake10 (S : ArenaBig AA) (N : NormSpec AA) (w : World) : Calls Tryz.prog 4 #[] w fun e w' => e = .returned (.bool true) ∧ Below w.heap.size w w' := by
  go_enter Tryz.func4, Tryz.ntmps4
  go_wp2_with fail
  refine (S.new w).mono ?_
  rintro e w1 ⟨a, F1, rfl, hA1, hF1, hB1⟩
  have HB1 := Lib.hid hB1
  have HF1 := Lib.hid hF1
  have HA1 := Lib.hid hA1
  clear hA1 hF1 hB1
  go_wp2_with fail
  refine (N.empty HA1.out canon_nil (by simp)).mono ?_
  rintro e w2 ⟨r, more, F2, rfl, hA2, hF2, ho2, hC2, hin, hk, hm⟩
  rw [List.nil_append] at hA2 hC2 hin hk
  have HA2 := Lib.hid hA2
  have HC2 := Lib.hid hC2
  have HB2 : Hid (Below w.heap.size w w2) := Lib.hid (HB1.out.trans (ho2.below (fun b q => HF1.out b q) HB1.out.size))
  have HF2 : Hid (∀ b, F2 b → w.heap.size ≤ b) := Lib.hid (fun b q => by rcases hF2 b q with h | h; exact HF1.out b h; exact Nat.le_trans HB1.out.size h)
  have HIn := Lib.hid hin
  have hr0 : (0 : Int) ≤ r := hin.1
  have e0 : decide ((0 : Int) ≤ r) = true := decide_eq_true hr0
  have hrI : I64 r := by unfold isIn at hin; unfold I64; omega
  have HrI := Lib.hid hrI
  have HNu : Hid (nullS more 0 r = true) := Lib.hid (null_empty hC2 hin hk)
  have HNull := Lib.hid (N.null r 0 hA2 hrI (by omega))
  have Hm := Lib.hid hm
  clear hA2 hF2 ho2 hC2 hin hk hrI hm
  go_wp2_with fail
  refine HNull.out.mono ?_
  rintro e w3 ⟨rfl, hb3⟩
  rw [HNu.out]
  have HA3 := Lib.hid (S.next HA2.out hb3)
  have HB3 := Lib.hid (HB2.out.trans (hb3.mono HB2.out.size))
  have HA4 := Lib.hid (S.next HA3.out ((Below.refl _ _).alloc (Nat.le_refl _) (.cells #[.int .i64 r, .int .i64 r] 3)))
  have HB4 := Lib.hid (HB3.out.alloc HB3.out.size (.cells #[.int .i64 r, .int .i64 r] 3))
  have HLe := Lib.hid (mem_len_le HC2.out.fine (k := 4) (Or.inl rfl) HC2.out HIn.out)
  clear hb3
  go_wp2_with fail
  refine (N.or [r, r] HA4.out HC2.out (list_two _ r r _) (fun x hx => by simp at hx; subst hx; exact HIn.out) (by unfold memN; simp; have := Hm.out; have := HLe.out; omega)).mono ?_
  rintro e w5 ⟨r', more2, F5, rfl, hA5, hF5, ho5, hC5, hin5, hj5, hm5, _⟩
  have hrr : r' = r := join_same hC5 (Or.inl rfl) (HIn.out.up more2) hj5
  subst hrr
  have HB5 : Hid (Below w.heap.size w w5) := Lib.hid (HB4.out.trans (ho5.below (fun b q => HF2.out b q) HB4.out.size))
  clear hA5 hF5 ho5 hC5 hin5 hj5 hm5
  go_wp2_with fail
  go_ret
  exact ⟨rfl, HB5.out⟩
end

end Go.Proofs.YtcghclikkeajfaaGreat

/- bolterlaw09.ArenaPuts, by what an arena does. -/
namespace Go.Proofs.YtcghclikkeajfaaGreat
open Go.RowKit
set_option linter.unusedSimpArgs false
set_option linter.unusedVariables false

theorem findN_le (ns : List Nd) (x : Nd) : findN ns x ≤ ns.length := List.findIdx_le_length
theorem findN_at {ns : List Nd} {x : Nd} (h : findN ns x < ns.length) : ndAt ns (findN ns x) = x := by
  rw [ndAt_lt h]
  have := @List.findIdx_getElem Nd (fun y => y.eqb x) ns h
  exact (Nd.eqb_iff _ _).1 this
theorem findN_not {ns : List Nd} {x : Nd} {t : Nat} (h : t < findN ns x) : (ndAt ns t).eqb x = false := by
  have hl := findN_le ns x
  rw [ndAt_lt (by omega)]
  have := List.not_of_lt_findIdx h
  simpa using this
theorem put_at {ns : List Nd} {x : Nd} (hr : x.right ns.length = true) : findN ns x < (putS ns x).length ∧ ndAt (putS ns x) (findN ns x) = x := by
  unfold putS
  rw [if_pos hr]
  by_cases h : findN ns x < ns.length
  · rw [if_pos h]; exact ⟨h, findN_at h⟩
  · rw [if_neg h]
    have e : findN ns x = ns.length := by have := findN_le ns x; omega
    refine ⟨by rw [e, List.length_append]; simp, ?_⟩
    unfold ndAt
    rw [e, List.getElem?_append_right (Nat.le_refl _), Nat.sub_self]; rfl

-- the walk
theorem NdRow.off {w w' : World} {base : Nat} {v : Value} {l : List Nd} {F : Nat → Prop} (h : NdRow w base v l) (ho : OffF F w w') (hn : ∀ b, F b → v.ownBlock ≠ some b) : NdRow w' base v l := by
  obtain ⟨h1, h2⟩ := id h
  refine ⟨h1, ?_⟩
  rcases h2 with ⟨e, q⟩ | ⟨g, cap, cur, e, hb, hc, r⟩
  · exact Or.inl ⟨e, q⟩
  · refine Or.inr ⟨g, cap, cur, e, hb, ?_, r⟩
    have hlt := (World.ownsRow.lt h g (by rw [e]; rfl)).2
    exact (ho.block g hlt (fun q => hn g q (by rw [e]; rfl))).trans hc
section
variable {AA : World → Value → List Nd → (Nat → Prop) → Prop}

end

end Go.Proofs.YtcghclikkeajfaaGreat

/- bolterlaw10.NormNulls, by what putting together does. -/
namespace Go.Proofs.YtcghclikkeajfaaGreat
open Go.RowKit
set_option linter.unusedSimpArgs false
set_option linter.unusedVariables false

theorem spansN (nm : List Nd) (l bits : List Nat) (A7 A B : Option Addr) (c7 ca cb n N i : Nat) (hn : n = l.length) (hN : N = n + 1) (h100 : n ≤ 100) (hnm : nm.length ≤ 100000) (hok : ∀ j, j < nm.length → NdOk (ndAt nm j) j) (hi : i < nm.length) (w0 : World)
    (hv : NdsAt w0 (.slice A7 nm.length c7) nm) (hb : IsBytes w0 A n l) (hbits : IsBytes w0 B N bits) :
    Calls Tryz.prog 13 #[.slice A7 nm.length c7, .slice A n ca, .slice B N cb] w0 fun e w' => ∃ g m cap ga ra, e = .returned (.slice (some ⟨g, 0, none⟩) m cap) ∧ i < m ∧ w'.cell? ⟨g, i, none⟩ = some (.slice (some ⟨ga, 0, none⟩) N N) ∧ TabAt w' 63 4 w0.heap.size ga N ra (nodeT l bits nm i) ∧ g < w'.heap.size ∧ Below w0.heap.size w0 w' := by
  subst hn
  refine (refNodeSpans nm l bits _ A B ca cb N hN h100 (by omega) hok w0 hv hb hbits).mono ?_
  rintro e w' ⟨v, ts, rfl, hts, hbl⟩
  have hlen := hts.len
  rw [nodesF_length] at hlen
  obtain ⟨g, cap, rfl, _, hg⟩ := hts.form (by omega)
  have h1 : i < ts.length := by omega
  have h2 : i < (nodesF l bits nm nm.length).length := by rw [nodesF_length]; exact hi
  have ht := hts.tab i h1 h2
  have hc := hts.cell i h1
  have e : nodeT l bits nm i = (nodesF l bits nm nm.length)[i] := by unfold nodeT fAt; rw [Int.toNat_natCast, List.getElem?_eq_getElem h2]; rfl
  rw [← e] at ht
  exact ⟨g, _, cap, _, _, rfl, h1, hc, ht, hg, hbl⟩
section
variable {AA : World → Value → List Nd → (Nat → Prop) → Prop}

end

end Go.Proofs.YtcghclikkeajfaaGreat
